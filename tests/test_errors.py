"""The classes of the refusals, and that each function refuses what is no pair (point 2)."""

import unittest

from prompt import leading, moves, quotients, taken, worth
from reckoning import MOST
from takepairs.errors import NoMove, NoNote, NoPair, NoTable, TakeError, TooLong

BAD_PILES = (0, -1, -7, -MOST, -10 ** 40, MOST + 1, MOST + 2, 10 ** 31, 10 ** 40)
GOOD_PILES = (1, 2, 7, MOST)
NUMBERS = (-10 ** 40, -1, 0, 1, 2, 3, MOST, 10 ** 40)


def bad_pairs():
    mixed = [(bad, good) for bad in BAD_PILES for good in GOOD_PILES]
    turned = [(good, bad) for bad, good in mixed]
    return mixed + turned + [(bad, other) for bad in BAD_PILES for other in BAD_PILES]


class Classes(unittest.TestCase):
    def test_take_error_stands_under_value_error(self):
        self.assertEqual(TakeError.__bases__, (ValueError,))

    def test_each_stands_straight_under_take_error(self):
        for refusal in (NoPair, NoTable, NoMove, TooLong, NoNote):
            self.assertEqual(refusal.__bases__, (TakeError,), refusal)

    def test_they_are_five(self):
        self.assertEqual(len({NoPair, NoTable, NoMove, TooLong, NoNote}), 5)


class NoPairIsRefused(unittest.TestCase):
    def refused(self, function, *handed):
        with self.assertRaises(ValueError, msg=f"{function.__name__}{handed}") as caught:
            function(*handed)
        self.assertIs(type(caught.exception), NoPair, f"{function.__name__}{handed}")
        self.assertIsInstance(caught.exception, TakeError)

    def test_by_what_takes_a_pair_alone(self):
        for function in (quotients, moves, worth):
            for pair in bad_pairs():
                self.refused(function, pair)

    def test_whatever_the_times_or_the_aim(self):
        for function in (taken, leading):
            for pair in bad_pairs():
                for number in NUMBERS:
                    self.refused(function, pair, number)


class TheBoundsAreNotRefused(unittest.TestCase):
    def test_one_and_the_greatest(self):
        self.assertEqual(quotients((1, 1)), [1])
        self.assertEqual(quotients((MOST, MOST)), [1])
        self.assertEqual(quotients((1, MOST)), [MOST])
        self.assertEqual(moves((1, 1)), 0)
        self.assertEqual(moves((MOST, MOST)), 0)
        self.assertEqual(moves((MOST, 1)), MOST - 1)
        self.assertEqual(taken((MOST, 1), MOST - 1), (1, 1))
        self.assertEqual(taken((1, MOST), 1), (1, MOST - 1))
        self.assertEqual(worth((1, 1)), 0)
        self.assertEqual(worth((MOST, MOST)), 0)
        self.assertEqual(worth((MOST, 1)), MOST - 1)
        self.assertEqual(leading((1, MOST), 0), MOST - 1)
        self.assertIsNone(leading((MOST, MOST), 0))
        self.assertIsNone(leading((1, 1), 0))


if __name__ == "__main__":
    unittest.main()
