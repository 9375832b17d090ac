"""The classes of the refusals, and that each function refuses what is no pair or no table (points 2, 3, 12)."""

import unittest

from prompt import (leading, longest, moved, moves, plays, quotients, shortest, shown, taken, together, winning, wins,
                    worth)
from reckoning import MOST
from refusals import BAD_PILES, Refusals, bad_pairs
from takepairs.errors import NoMove, NoNote, NoPair, NoTable, TakeError, TooLong

NUMBERS = (-10 ** 40, -1, 0, 1, 2, 3, MOST, 10 ** 40)
GOOD_PAIRS = ((5, 2), (7, 7), (1, MOST), (MOST, MOST - 1), (2, 1), (3, 9), (1, 1))


def moves_asked(table):
    """Numbers of pairs and of times, some of a move and some of none."""
    numbers = (-10 ** 40, -1, 0, len(table) - 1, len(table), 10 ** 40)
    return [(number, times) for number in numbers for times in (-10 ** 40, -1, 0, 1, 10 ** 40)]


def tables_with(pair):
    """Tables of one to six pairs with this one at each place."""
    return [list(GOOD_PAIRS[:place]) + [pair] + list(GOOD_PAIRS[place:length - 1])
            for length in range(1, 7) for place in range(length)]


class Classes(unittest.TestCase):
    def test_take_error_stands_under_value_error(self):
        self.assertEqual(TakeError.__bases__, (ValueError,))

    def test_each_stands_straight_under_take_error(self):
        for refusal in (NoPair, NoTable, NoMove, TooLong, NoNote):
            self.assertEqual(refusal.__bases__, (TakeError,), refusal)

    def test_they_are_five(self):
        self.assertEqual(len({NoPair, NoTable, NoMove, TooLong, NoNote}), 5)


class NoPairIsRefused(Refusals):
    def test_by_what_takes_a_pair_alone(self):
        for function in (quotients, moves, worth, shortest, longest, plays):
            for pair in bad_pairs():
                self.refused(NoPair, function, pair)

    def test_whatever_the_times_or_the_aim(self):
        for function in (taken, leading):
            for pair in bad_pairs():
                for number in NUMBERS:
                    self.refused(NoPair, function, pair, number)

    def test_at_each_place_of_a_table(self):
        for pair in [(bad, 2) for bad in BAD_PILES] + [(2, bad) for bad in BAD_PILES] + [(0, 0), (0, MOST + 1)]:
            for table in tables_with(pair):
                for function in (together, wins, winning, shown):
                    self.refused(NoPair, function, table)

    def test_at_each_place_of_a_table_whatever_the_move(self):
        for pair in [(0, 2), (2, 0), (-1, 3), (MOST + 1, 1), (1, MOST + 1)]:
            for table in tables_with(pair):
                for number, times in moves_asked(table):
                    self.refused(NoPair, moved, table, number, times)

    def test_every_pair_of_a_table(self):
        for length in range(1, 7):
            for function in (together, wins, winning, shown):
                self.refused(NoPair, function, [(0, 0)] * length)
            self.refused(NoPair, moved, [(0, 0)] * length, 0, 1)


class NoTableIsRefused(Refusals):
    def long_tables(self):
        seven = list(GOOD_PAIRS)
        tables = [seven, seven + [(5, 2)], seven * 7, [(1, 1)] * 7, [(0, 0)] * 7]
        for place in range(7):
            for pair in ((0, 1), (1, MOST + 1), (-1, -1)):
                tables.append(seven[:place] + [pair] + seven[place + 1:])
        return tables

    def test_whatever_the_pairs(self):
        for table in self.long_tables():
            for function in (together, wins, winning, shown):
                self.refused(NoTable, function, table)

    def test_whatever_the_move(self):
        for table in self.long_tables():
            for number, times in moves_asked(table):
                self.refused(NoTable, moved, table, number, times)


class TheBoundsAreNotRefused(unittest.TestCase):
    def test_one_and_the_greatest(self):
        self.assertEqual(quotients((1, 1)), [1])
        self.assertEqual(quotients((MOST, MOST)), [1])
        self.assertEqual(quotients((1, MOST)), [MOST])
        self.assertEqual(moves((1, 1)), 0)
        self.assertEqual(moves((MOST, MOST)), 0)
        self.assertEqual(moves((MOST, 1)), MOST - 1)
        self.assertEqual(taken((MOST, 1), MOST - 1), (1, 1))
        self.assertEqual(taken((1, MOST), 1), (1, MOST - 1))
        self.assertEqual(worth((1, 1)), 0)
        self.assertEqual(worth((MOST, MOST)), 0)
        self.assertEqual(worth((MOST, 1)), MOST - 1)
        self.assertEqual(leading((1, MOST), 0), MOST - 1)
        self.assertIsNone(leading((MOST, MOST), 0))
        self.assertIsNone(leading((1, 1), 0))
        self.assertEqual(shortest((1, MOST)), 1)
        self.assertEqual(longest((MOST, 1)), MOST - 1)
        self.assertEqual(plays((1, 1)), 1)
        self.assertEqual(plays((MOST, MOST)), 1)

    def test_no_pair_and_six_pairs(self):
        for table in ([], [(1, MOST)] * 6, [(MOST, MOST)] * 6, [(1, 1)] * 6):
            self.assertEqual(together(table), 0)
            self.assertIs(wins(table), False)
            self.assertEqual(winning(table), [])
            self.assertEqual(shown(table), " ".join(f"{first}/{second}" for first, second in table))
        self.assertEqual(moved([(1, MOST)] * 6, 5, MOST - 1), [(1, MOST)] * 5 + [(1, 1)])


if __name__ == "__main__":
    unittest.main()
