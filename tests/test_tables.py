"""The worth of a table, its winning moves, and the table behind a move (points 3, 8, 9, 10)."""

import unittest

from prompt import moved, together, winning, wins
from reckoning import (MOST, balanced_tables, behind_move, great_tables, moves_gone_through, small_pairs, small_tables,
                       sum_neighbours, table_worth, whole_part, worths_gone_through)
from refusals import Refusals
from takepairs.errors import NoMove


def greater_tables():
    """Tables of piles from some tens to some thousands."""
    piles = [(37 * step * step + 11 * step) % 4999 + 1 for step in range(1, 200)]
    pairs = list(zip(piles, piles[1:])) + [(pile, pile % 13 + 1) for pile in piles]
    return [pairs[start:start + length] for length in range(1, 7) for start in range(0, len(pairs) - 6, 5)]


def nought_by_search(table, number):
    """The numbers of times by which moves in this pair make the table's worth nought, for piles of any size.

    Where the lesser pile is left once or more besides the rest, each time more makes the one fraction greater by one
    and the other less, so the worth rises and can be searched by halves; the move that leaves the rest alone is asked
    by itself.
    """
    lesser, greater = sorted(table[number])
    whole, rest = divmod(greater, lesser)
    aim = table_worth(table[:number] + table[number + 1:])
    low, high = 1, whole - 1
    while low < high:
        middle = (low + high) // 2
        if whole_part((lesser, middle * lesser + rest)) < aim:
            low = middle + 1
        else:
            high = middle
    kept = [low] if low == high else []
    if rest:
        kept.append(0)
    return sorted(whole - times for times in kept if whole_part((lesser, times * lesser + rest)) == aim)


class Together(unittest.TestCase):
    def test_the_empty_table(self):
        self.assertEqual(together([]), 0)
        self.assertIs(type(together([])), int)

    def test_written_out(self):
        for table, told in [([(5, 2)], 2), ([(7, 7)], 0), ([(5, 2), (7, 7)], 2), ([(5, 2), (2, 5)], 0),
                            ([(2, 1), (5, 2)], 3), ([(4, 1), (6, 1)], 6), ([(4, 1), (6, 1), (7, 1)], 0),
                            ([(4, 1), (4, 1), (4, 1)], 3), ([(8, 1), (1, 2), (5, 1), (3, 2), (9, 9), (1, 3)], 0)]:
            self.assertEqual(together(table), told, table)

    def test_one_pair(self):
        for pair, told in worths_gone_through(30).items():
            self.assertEqual(together([pair]), told, pair)

    def test_pairs_of_like_worths(self):
        by_worth = {}
        for pair, told in worths_gone_through(12).items():
            by_worth.setdefault(told, []).append(pair)
        for told, pairs in by_worth.items():
            for one in pairs:
                self.assertEqual(together([one, pairs[0]]), 0)
                self.assertEqual(together([one, pairs[-1], one]), told)
                self.assertEqual(together([one] * 5), told)
                self.assertEqual(together([one, pairs[-1]] * 3), 0)

    def test_small_piles_by_figures(self):
        for length, most in ((0, 1), (1, 30), (2, 9), (3, 5)):
            for table in small_tables(most, length):
                self.assertEqual(together(table), table_worth(table), table)

    def test_greater_and_great_piles_by_figures(self):
        for table in greater_tables() + great_tables() + balanced_tables():
            told = together(table)
            self.assertEqual(told, table_worth(table), table)
            self.assertIs(type(told), int)

    def test_great_piles_written_out(self):
        self.assertEqual(together([(MOST, 1)]), MOST - 1)
        self.assertEqual(together([(MOST, 1), (1, MOST)]), 0)
        self.assertEqual(together([(2 ** 99 + 1, 1), (2 ** 98 + 1, 1)]), 2 ** 99 + 2 ** 98)
        self.assertEqual(together([(2 ** 99, 1), (1, 2 ** 98)]), 2 ** 98)


class Wins(unittest.TestCase):
    def test_written_out(self):
        self.assertIs(wins([]), False)
        self.assertIs(wins([(7, 7)]), False)
        self.assertIs(wins([(3, 2)]), False)
        self.assertIs(wins([(5, 2)]), True)
        self.assertIs(wins([(5, 2), (2, 5)]), False)
        self.assertIs(wins([(5, 2), (2, 1)]), True)

    def test_just_where_the_worth_is_not_nought(self):
        for table in small_tables(9, 2) + small_tables(4, 3) + greater_tables() + great_tables():
            self.assertIs(wins(table), table_worth(table) != 0, table)

    def test_not_in_balanced_tables(self):
        for table in balanced_tables():
            self.assertEqual(table_worth(table), 0)
            self.assertIs(wins(table), False, table)


class Winning(unittest.TestCase):
    def check_kinds(self, told):
        self.assertIs(type(told), list)
        for move in told:
            self.assertIs(type(move), tuple)
            self.assertEqual([type(number) for number in move], [int, int])

    def test_written_out(self):
        self.assertEqual(winning([]), [])
        self.assertEqual(winning([(7, 7)]), [])
        self.assertEqual(winning([(5, 2)]), [(0, 1)])
        self.assertEqual(winning([(7, 7), (5, 2)]), [(1, 1)])
        self.assertEqual(winning([(4, 1), (4, 1), (4, 1)]), [(0, 3), (1, 3), (2, 3)])
        # The one move to a greater worth than the pair's own wins as well.
        self.assertEqual(winning([(4, 3), (5, 2)]), [(0, 1), (1, 1)])

    def test_all_small_tables(self):
        worths = worths_gone_through(12)
        for length, most in ((0, 1), (1, 12), (2, 9), (3, 5)):
            for table in small_tables(most, length):
                told = winning(table)
                expected = []
                for number, pair in enumerate(table):
                    others = 0
                    for other in table[:number] + table[number + 1:]:
                        others ^= worths[other]
                    for times, behind in moves_gone_through(pair).items():
                        if worths[behind] == others:
                            expected.append((number, times))
                self.assertEqual(told, expected, table)
                self.check_kinds(told)

    def test_the_worth_told_behind_each_move(self):
        for length, most in ((1, 12), (2, 6), (3, 3)):
            for table in small_tables(most, length):
                told = winning(table)
                for number, pair in enumerate(table):
                    for times in moves_gone_through(pair):
                        behind = together(moved(table, number, times))
                        self.assertEqual((number, times) in told, behind == 0, (table, number, times))

    def test_greater_and_great_piles(self):
        for table in greater_tables() + great_tables():
            told = winning(table)
            expected = [(number, times) for number in range(len(table)) for times in nought_by_search(table, number)]
            self.assertEqual(told, expected, table)
            self.assertEqual(bool(told), table_worth(table) != 0, table)
            self.check_kinds(told)

    def test_each_told_move_makes_the_worth_nought(self):
        for table in greater_tables() + great_tables():
            for number, times in winning(table):
                self.assertEqual(table_worth(behind_move(table, number, times)), 0, table)
                self.assertEqual(together(moved(table, number, times)), 0, table)

    def test_at_most_one_in_each_pair_by_rising_numbers(self):
        for table in small_tables(7, 2) + greater_tables() + great_tables():
            numbers = [number for number, times in winning(table)]
            self.assertEqual(numbers, sorted(set(numbers)), table)

    def test_none_where_the_worth_is_nought(self):
        for table in balanced_tables():
            self.assertEqual(winning(table), [], table)

    def test_great_piles_written_out(self):
        self.assertEqual(winning([(MOST, 1)]), [(0, MOST - 1)])
        self.assertEqual(winning([(MOST, 1), (1, MOST - 5)]), [(0, 5)])
        self.assertEqual(winning([(MOST, MOST - 1), (MOST - 1, 1)]), [(0, 1), (1, MOST - 2)])
        # Of two such pairs one is worth 1 and the other nought, and the one move in each leads to the other worth.
        lesser, greater = sum_neighbours()
        self.assertEqual(winning([(lesser, greater), (lesser, greater - lesser)]), [(0, 1), (1, 1)])


class Moved(Refusals):
    def test_written_out(self):
        self.assertEqual(moved([(5, 2)], 0, 1), [(3, 2)])
        self.assertEqual(moved([(7, 7), (2, 5)], 1, 2), [(7, 7), (2, 1)])
        self.assertEqual(moved([(5, 2), (5, 2), (5, 2)], 1, 2), [(5, 2), (1, 2), (5, 2)])

    def test_each_move_in_small_tables(self):
        others = [(5, 2), (7, 7), (2, 9), (5, 2), (MOST, 1)]
        for pair in small_pairs(12):
            for length in range(1, 7):
                for number in range(length):
                    table = others[:number] + [pair] + others[number:length - 1]
                    for times, behind in moves_gone_through(pair).items():
                        expected = others[:number] + [behind] + others[number:length - 1]
                        self.assertEqual(moved(table, number, times), expected, table)

    def test_great_piles(self):
        for table in great_tables():
            for number, pair in enumerate(table):
                most = (max(pair) - 1) // min(pair)
                for times in {1, 2, most // 2, most}:
                    if 1 <= times <= most:
                        self.assertEqual(moved(table, number, times), behind_move(table, number, times), table)
                for times in (-most - 1, -1, 0, most + 1, 2 * most + 2):
                    self.refused(NoMove, moved, table, number, times)

    def test_a_list_of_tuples(self):
        told = moved([(5, 2), (7, 7), (2, 5)], 0, 1)
        self.assertIs(type(told), list)
        for pair in told:
            self.assertIs(type(pair), tuple)
            self.assertEqual([type(pile) for pile in pair], [int, int])

    def test_no_pair_of_that_number(self):
        pairs = [(5, 2), (9, 2), (2, 9), (12, 5), (5, 3), (9, 1)]
        for length in range(7):
            table = pairs[:length]
            beyond = (length, length + 1, length + 2, MOST, 10 ** 40, 10 ** 400)
            below = (-1, -2, -length, -length - 1, -MOST, -10 ** 40, -10 ** 400)
            for number in beyond + below:
                if number != 0 or length == 0:
                    for times in (-1, 0, 1, 2):
                        self.refused(NoMove, moved, table, number, times)

    def test_no_move_in_that_pair(self):
        for table in small_tables(6, 2):
            for number, pair in enumerate(table):
                beyond = len(moves_gone_through(pair)) + 1
                for times in (0, -1, -2, beyond, beyond + 1, 10 ** 40, -10 ** 40):
                    self.refused(NoMove, moved, table, number, times)

    def test_like_piles_have_no_move(self):
        for pile in (1, 2, 7, MOST):
            for number in range(3):
                table = [(5, 2), (5, 2), (5, 2)]
                table[number] = (pile, pile)
                for times in range(-3, 4):
                    self.refused(NoMove, moved, table, number, times)


if __name__ == "__main__":
    unittest.main()
