"""Quotients, moves, and the pair behind a move (points 1, 3, 5, 6)."""

import unittest

from prompt import moves, quotients, taken
from reckoning import MOST, divided, great_pairs, moves_gone_through, of_quotients, small_pairs, sum_neighbours
from refusals import Refusals
from takepairs.errors import NoMove

SMALL = 40


class Quotients(unittest.TestCase):
    def test_as_the_document_has_them(self):
        self.assertEqual(quotients((5, 2)), [2, 2])
        self.assertEqual(quotients((7, 7)), [1])

    def test_written_out(self):
        self.assertEqual(quotients((2, 5)), [2, 2])
        self.assertEqual(quotients((12, 4)), [3])
        self.assertEqual(quotients((4, 12)), [3])
        self.assertEqual(quotients((9, 1)), [9])
        self.assertEqual(quotients((8, 7)), [1, 7])
        self.assertEqual(quotients((9, 7)), [1, 3, 2])
        self.assertEqual(quotients((10, 7)), [1, 2, 3])
        self.assertEqual(quotients((43, 30)), [1, 2, 3, 4])

    def test_all_small_piles(self):
        for first, second in small_pairs(SMALL):
            self.assertEqual(quotients((first, second)), divided(max(first, second), min(first, second)))

    def test_great_piles(self):
        self.assertEqual(quotients((MOST, 1)), [MOST])
        self.assertEqual(quotients((MOST - 1, MOST)), [1, MOST - 1])
        self.assertEqual(quotients((MOST, MOST - 2)), [1, MOST // 2 - 1])
        self.assertEqual(quotients((MOST, MOST - 3)), [1, MOST // 3 - 1, 3])
        self.assertEqual(quotients((MOST // 2, MOST)), [2])

    def test_great_piles_are_built_up_again(self):
        for pair in great_pairs():
            told = quotients(pair)
            above, below = of_quotients(told)
            lesser, greater = sorted(pair)
            self.assertEqual(above * lesser, below * greater, pair)
            self.assertTrue(all(quotient >= 1 for quotient in told), pair)
            # Without this a last quotient could be split into one less and a one.
            self.assertTrue(told == [1] or told[-1] >= 2, pair)

    def test_the_longest_row_of_ones(self):
        lesser, greater = sum_neighbours()
        told = quotients((lesser, greater))
        self.assertEqual(told, [1] * (len(told) - 1) + [2])
        self.assertGreater(len(told), 140)

    def test_a_list_of_whole_numbers(self):
        for pair in [(5, 2), (7, 7), (1, 1), (MOST, 1)]:
            told = quotients(pair)
            self.assertIs(type(told), list)
            self.assertEqual({type(quotient) for quotient in told}, {int})


class TheAskersOwn(unittest.TestCase):
    def test_a_changed_list_is_told_again_as_it_was(self):
        for pair in [(5, 2), (7, 7), (12, 4), (1, 1), (MOST, MOST - 3)]:
            told = quotients(pair)
            kept = list(told)
            told.append(99)
            told[0] = -1
            self.assertEqual(quotients(pair), kept)
            told.clear()
            self.assertEqual(quotients(pair), kept)

    def test_no_two_answers_are_one_list(self):
        told = [quotients(pair) for pair in [(5, 2), (5, 2), (2, 5), (7, 7), (3, 3), (1, 1), (7, 7)]]
        self.assertEqual(len({id(answer) for answer in told}), len(told))

    def test_an_earlier_answer_stays_as_it_was(self):
        told = quotients((43, 30))
        quotients((9, 7))
        quotients((43, 30)).clear()
        self.assertEqual(told, [1, 2, 3, 4])

    def test_what_was_handed_in_is_as_it_was(self):
        pair = (5, 2)
        quotients(pair)
        moves(pair)
        taken(pair, 2)
        self.assertEqual(pair, (5, 2))


class Moves(unittest.TestCase):
    def test_written_out(self):
        self.assertEqual(moves((5, 2)), 2)
        self.assertEqual(moves((2, 5)), 2)
        self.assertEqual(moves((7, 7)), 0)
        self.assertEqual(moves((12, 4)), 2)
        self.assertEqual(moves((13, 4)), 3)
        self.assertEqual(moves((11, 4)), 2)
        self.assertEqual(moves((8, 7)), 1)
        self.assertEqual(moves((2, 1)), 1)

    def test_all_small_piles(self):
        for pair in small_pairs(SMALL):
            self.assertEqual(moves(pair), len(moves_gone_through(pair)), pair)

    def test_as_the_first_quotient_tells(self):
        for pair in small_pairs(SMALL) + great_pairs():
            fewer = 1 if max(pair) % min(pair) == 0 else 0
            told = moves(pair)
            self.assertEqual(told, quotients(pair)[0] - fewer, pair)
            self.assertIs(type(told), int)

    def test_great_piles(self):
        self.assertEqual(moves((MOST, 1)), MOST - 1)
        self.assertEqual(moves((2, MOST)), MOST // 2 - 1)
        self.assertEqual(moves((MOST, 3)), MOST // 3)
        self.assertEqual(moves((MOST, MOST)), 0)
        self.assertEqual(moves((MOST - 1, MOST)), 1)
        self.assertEqual(moves(sum_neighbours()), 1)


class Taken(Refusals):
    def test_written_out(self):
        self.assertEqual(taken((5, 2), 1), (3, 2))
        self.assertEqual(taken((5, 2), 2), (1, 2))
        self.assertEqual(taken((2, 5), 1), (2, 3))
        self.assertEqual(taken((2, 5), 2), (2, 1))
        self.assertEqual(taken((12, 4), 2), (4, 4))

    def test_each_move_of_small_piles(self):
        for pair in small_pairs(SMALL):
            for times, behind in moves_gone_through(pair).items():
                self.assertEqual(taken(pair, times), behind)

    def test_great_piles(self):
        for pair in great_pairs():
            lesser, greater = sorted(pair)
            most = (greater - 1) // lesser
            for times in {1, 2, most // 2, most - 1, most}:
                if 1 <= times <= most:
                    left = greater - times * lesser
                    behind = (left, lesser) if pair[0] == greater else (lesser, left)
                    self.assertEqual(taken(pair, times), behind)

    def test_a_tuple_of_two_whole_numbers(self):
        for pair in [(5, 2), (2, 5), (MOST, 1), (1, MOST)]:
            told = taken(pair, 1)
            self.assertIs(type(told), tuple)
            self.assertEqual([type(pile) for pile in told], [int, int])

    def test_no_move_in_small_piles(self):
        for pair in small_pairs(SMALL):
            beyond = len(moves_gone_through(pair)) + 1
            for times in (0, -1, -2, beyond, beyond + 1, beyond + 2):
                self.refused(NoMove, taken, pair, times)

    def test_no_move_in_great_piles(self):
        for pair in great_pairs():
            beyond = (max(pair) - 1) // min(pair) + 1
            for times in (0, -1, -beyond, beyond, beyond + 1):
                self.refused(NoMove, taken, pair, times)

    def test_numbers_far_beyond(self):
        for pair in [(5, 2), (2, 5), (7, 7), (1, 1), (12, 4), (MOST, 1), (1, MOST), (MOST, MOST)]:
            for times in (-10 ** 400, -10 ** 40, -MOST, MOST, 10 ** 40, 10 ** 400):
                self.refused(NoMove, taken, pair, times)

    def test_like_piles_have_no_move(self):
        for pile in (1, 2, 7, MOST - 1, MOST):
            for times in range(-3, 4):
                self.refused(NoMove, taken, (pile, pile), times)


if __name__ == "__main__":
    unittest.main()
