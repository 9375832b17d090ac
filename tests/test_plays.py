"""The shortest and the longest play of a pair, and the count of its plays (points 11, 12)."""

import unittest

from prompt import longest, plays, shortest
from reckoning import (MOST, divided, great_pairs, lengths_gone_through, of_quotients, plays_gone_through, small_pairs,
                       sum_neighbours)
from refusals import Refusals
from takepairs.errors import NoPair, TooLong

SMALL = 40
# Quotients of pairs, each but for its last quotient, which makes up the length that a test asks for.
STARTS = ([], [1], [2], [100], [180], [1] * 60, [2] * 40, [1, 2, 3, 4, 5], [7, 1, 1, 90], [1] * 100, [50, 50, 50, 1])


def quotients_by_dividing(pair):
    lesser, greater = sorted(pair)
    found = []
    while lesser:
        whole, rest = divmod(greater, lesser)
        found.append(whole)
        greater, lesser = lesser, rest
    return found


def with_longest(start, length):
    """Quotients that begin so, of pairs of which the longest play has so many moves."""
    return start + [length + 1 - sum(start)]


class Lengths(unittest.TestCase):
    def test_written_out(self):
        for pair, fewest, most in [((5, 2), 2, 3), ((2, 5), 2, 3), ((7, 7), 0, 0), ((1, 1), 0, 0), ((2, 1), 1, 1),
                                   ((9, 1), 1, 8), ((12, 4), 1, 2), ((8, 7), 2, 7), ((43, 30), 4, 9)]:
            self.assertEqual(shortest(pair), fewest, pair)
            self.assertEqual(longest(pair), most, pair)

    def test_all_plays_of_small_piles(self):
        for pair, lengths in lengths_gone_through(SMALL).items():
            self.assertEqual(shortest(pair), min(lengths), pair)
            self.assertEqual(longest(pair), max(lengths), pair)

    def test_like_piles(self):
        for pile in (1, 2, 7, 1000, MOST - 1, MOST):
            self.assertEqual(shortest((pile, pile)), 0)
            self.assertEqual(longest((pile, pile)), 0)

    def test_great_piles_by_the_quotients(self):
        for pair in great_pairs():
            told = quotients_by_dividing(pair)
            self.assertEqual(shortest(pair), len(told) if pair[0] != pair[1] else 0, pair)
            self.assertEqual(longest(pair), sum(told) - 1, pair)

    def test_great_piles_written_out(self):
        for pair, fewest, most in [((MOST, 1), 1, MOST - 1), ((1, MOST), 1, MOST - 1), ((MOST, MOST - 1), 2, MOST - 1),
                                   ((MOST // 2, MOST), 1, 1), ((MOST, MOST - 3), 3, MOST // 3 + 2)]:
            self.assertEqual(shortest(pair), fewest, pair)
            self.assertEqual(longest(pair), most, pair)

    def test_sum_neighbours_have_one_play(self):
        lesser, greater = sum_neighbours()
        for pair in [(lesser, greater), (greater, lesser)]:
            self.assertGreater(shortest(pair), 140)
            self.assertEqual(shortest(pair), longest(pair))
            self.assertEqual(plays(pair), 1)

    def test_whole_numbers(self):
        for pair in [(5, 2), (7, 7), (1, 1), (MOST, MOST)]:
            for function in (shortest, longest, plays):
                self.assertIs(type(function(pair)), int)


class Plays(Refusals):
    def test_written_out(self):
        for pair, told in [((5, 2), 2), ((2, 5), 2), ((7, 7), 1), ((1, 1), 1), ((2, 1), 1), ((3, 1), 2), ((9, 1), 128),
                           ((12, 4), 2), ((8, 7), 32), ((43, 30), 32)]:
            self.assertEqual(plays(pair), told, pair)

    def test_all_plays_one_by_one(self):
        for pair in small_pairs(13):
            gone_through = plays_gone_through(pair)
            self.assertEqual(len(set(gone_through)), len(gone_through))
            self.assertEqual(plays(pair), len(gone_through), pair)

    def test_all_plays_of_small_piles(self):
        for pair, lengths in lengths_gone_through(SMALL).items():
            self.assertEqual(plays(pair), sum(lengths.values()), pair)

    def test_like_piles(self):
        for pile in (1, 2, 7, 1000, MOST - 1, MOST):
            self.assertEqual(plays((pile, pile)), 1)

    def test_a_longest_play_of_up_to_200_moves_is_counted(self):
        for length in (198, 199, 200):
            for start in STARTS:
                told = with_longest(start, length)
                greater, lesser = of_quotients(told)
                count = 1
                for quotient in told:
                    count *= 2 ** (quotient - 1)
                for times in (1, MOST // greater):
                    pair = (times * greater, times * lesser)
                    self.assertEqual(longest(pair), length, told)
                    self.assertEqual(plays(pair), count // 2, told)
                    self.assertEqual(plays(pair[::-1]), count // 2, told)
        self.assertEqual(plays((201, 1)), 2 ** 199)

    def test_a_longer_one_is_refused(self):
        for length in (201, 202, 300, 10 ** 5):
            for start in STARTS:
                greater, lesser = of_quotients(with_longest(start, length))
                for times in (1, MOST // greater):
                    pair = (times * greater, times * lesser)
                    self.assertEqual(longest(pair), length, pair)
                    self.refused(TooLong, plays, pair)
                    self.refused(TooLong, plays, pair[::-1])

    def test_great_piles(self):
        for pair in great_pairs():
            told = quotients_by_dividing(pair)
            if sum(told) - 1 > 200:
                self.refused(TooLong, plays, pair)
            else:
                twos = sum(told) - len(told) - (pair[0] != pair[1])
                self.assertEqual(plays(pair), 2 ** twos, pair)

    def test_what_is_no_pair_is_refused_as_such_whatever_its_plays(self):
        for pair in [(MOST + 1, 1), (1, MOST + 1), (MOST + 1, MOST + 1), (0, 5), (5, 0), (0, 0), (-202, 1), (202, -1),
                     (10 ** 40, 1), (10 ** 40, 10 ** 40)]:
            self.refused(NoPair, plays, pair)


class TheTestsOwnQuotients(unittest.TestCase):
    def test_as_by_taking_away(self):
        for first, second in small_pairs(SMALL):
            told = divided(max(first, second), min(first, second))
            self.assertEqual(quotients_by_dividing((first, second)), told)


if __name__ == "__main__":
    unittest.main()
