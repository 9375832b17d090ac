"""What the tests of refusals share."""

import unittest

from reckoning import MOST
from takepairs.errors import TakeError

BAD_PILES = (0, -1, -7, -MOST, -10 ** 40, MOST + 1, MOST + 2, 10 ** 31, 10 ** 40)
GOOD_PILES = (1, 2, 7, MOST)


def bad_pairs():
    mixed = [(bad, good) for bad in BAD_PILES for good in GOOD_PILES]
    turned = [(good, bad) for bad, good in mixed]
    return mixed + turned + [(bad, other) for bad in BAD_PILES for other in BAD_PILES]


class Refusals(unittest.TestCase):
    def refused(self, refusal, function, *handed):
        """The function refuses what is handed to it with just this class."""
        called = f"{function.__name__}{handed}"
        with self.assertRaises(ValueError, msg=called) as caught:
            function(*handed)
        self.assertIs(type(caught.exception), refusal, called)
        self.assertIsInstance(caught.exception, TakeError, called)
