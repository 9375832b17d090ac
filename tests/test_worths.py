"""The worth of a pair, and the move that leads to a given worth (points 7, 8)."""

import unittest

from prompt import leading, moves, taken, worth
from reckoning import (MOST, great_pairs, is_whole_part, moves_gone_through, small_pairs, sum_neighbours,
                       worths_gone_through)

SMALL = 60


class Worth(unittest.TestCase):
    def test_written_out(self):
        for pair, told in [((1, 1), 0), ((7, 7), 0), ((2, 1), 1), ((3, 2), 0), ((5, 3), 1), ((5, 2), 2),
                           ((7, 2), 3), ((12, 4), 2), ((9, 1), 8), ((8, 5), 0), ((13, 8), 1)]:
            self.assertEqual(worth(pair), told, pair)
            self.assertEqual(worth(pair[::-1]), told, pair)

    def test_the_least_that_no_move_leads_to(self):
        for pair, told in worths_gone_through(SMALL).items():
            self.assertEqual(worth(pair), told, pair)

    def test_the_whole_part_of_the_difference(self):
        for pair in small_pairs(SMALL) + great_pairs():
            told = worth(pair)
            self.assertIs(type(told), int)
            self.assertTrue(is_whole_part(told, pair), pair)

    def test_either_pile_first(self):
        for pair in small_pairs(SMALL) + great_pairs():
            self.assertEqual(worth(pair), worth(pair[::-1]), pair)

    def test_great_piles_written_out(self):
        self.assertEqual(worth((MOST, 1)), MOST - 1)
        self.assertEqual(worth((2, MOST)), MOST // 2 - 1)
        self.assertEqual(worth((MOST, 3)), MOST // 3)
        self.assertEqual(worth((MOST, MOST)), 0)
        self.assertEqual(worth((MOST, MOST - 1)), 0)

    def test_neighbours_by_turns(self):
        # Their fraction lies by turns just below and just above the one where the worth changes.
        lesser, greater = sum_neighbours()
        told = []
        while lesser > 1:
            told.append(worth((lesser, greater)))
            lesser, greater = greater - lesser, lesser
        self.assertEqual(sorted(set(told)), [0, 1])
        self.assertTrue(all(one != other for one, other in zip(told, told[1:])))

    def test_what_was_handed_in_is_as_it_was(self):
        pair = (5, 2)
        worth(pair)
        leading(pair, 1)
        self.assertEqual(pair, (5, 2))


class LeadingInSmallPiles(unittest.TestCase):
    def setUp(self):
        self.worths = worths_gone_through(SMALL)

    def test_written_out(self):
        self.assertEqual(leading((5, 2), 0), 1)
        self.assertEqual(leading((5, 2), 1), 2)
        self.assertIsNone(leading((5, 2), 2))
        self.assertEqual(leading((2, 5), 0), 1)
        self.assertEqual(leading((4, 3), 2), 1)
        self.assertIsNone(leading((4, 3), 0))

    def test_each_aim(self):
        for pair in self.worths:
            by_worth = {self.worths[behind]: times for times, behind in moves_gone_through(pair).items()}
            for aim in range(-3, SMALL + 3):
                told = leading(pair, aim)
                if aim in by_worth:
                    self.assertEqual(told, by_worth[aim], (pair, aim))
                    self.assertIs(type(told), int)
                else:
                    self.assertIsNone(told, (pair, aim))

    def test_no_two_moves_lead_to_one_worth(self):
        for pair, own in self.worths.items():
            behind = [worth(taken(pair, times)) for times in range(1, moves(pair) + 1)]
            self.assertEqual(len(set(behind)), len(behind), pair)
            self.assertEqual(sorted(behind)[:own], list(range(own)), pair)
            self.assertLessEqual(len(behind), own + 1, pair)

    def test_great_aims(self):
        for pair in small_pairs(12):
            for aim in (-10 ** 400, -10 ** 40, -MOST, MOST, 10 ** 40, 10 ** 400):
                self.assertIsNone(leading(pair, aim), (pair, aim))


class LeadingInGreatPiles(unittest.TestCase):
    def test_to_lesser_worths(self):
        for pair in great_pairs():
            own = worth(pair)
            near = [number + step for number in (0, own // 3, own // 2, own) for step in range(-12, 13)]
            for aim in near:
                if 0 <= aim < own:
                    times = leading(pair, aim)
                    self.assertIs(type(times), int, (pair, aim))
                    self.assertTrue(is_whole_part(aim, taken(pair, times)), (pair, aim))

    def test_to_the_worth_of_each_move(self):
        for pair in great_pairs():
            most = moves(pair)
            for times in {1, 2, 3, most // 3, most // 2, most - 2, most - 1, most}:
                if 1 <= times <= most:
                    aim = worth(taken(pair, times))
                    self.assertEqual(leading(pair, aim), times, (pair, aim))

    def test_to_no_worth_of_a_move(self):
        for pair in great_pairs():
            own = worth(pair)
            # Only the move that leaves the least can lead to a greater worth than the pair's own.
            last = worth(taken(pair, moves(pair))) if moves(pair) else None
            for aim in (own, own + 1, own + 2, own * 2 + 1, MOST - 1, MOST, MOST + 1, 10 ** 40, 10 ** 400):
                if aim >= own and aim != last:
                    self.assertIsNone(leading(pair, aim), (pair, aim))
            for aim in (-1, -2, -own - 1, -MOST, -10 ** 40, -10 ** 400):
                self.assertIsNone(leading(pair, aim), (pair, aim))

    def test_to_a_greater_worth(self):
        pile = 10 ** 29
        self.assertEqual(leading((3 * pile + 1, pile), pile - 1), 3)
        self.assertEqual(leading((pile, 3 * pile + 1), pile - 1), 3)
        self.assertIsNone(leading((3 * pile + 1, pile), pile))
        self.assertIsNone(leading((3 * pile + 1, pile), pile - 2))
        self.assertEqual(leading((MOST, MOST - 1), MOST - 2), 1)


if __name__ == "__main__":
    unittest.main()
