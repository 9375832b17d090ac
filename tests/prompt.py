"""The program's functions as the tests call them: each answers within a bounded count of steps.

Rows of the program are counted, not seconds, so that a slow way is told from a slow machine and doesn't hang.
"""

import functools
import sys

from takepairs import pairs, worths

MOST_STEPS = 3000
# Among numbers up to this one no way is slow, and counting would only make the tests so.
SMALL = 1000


class TooManySteps(Exception):
    pass


def all_small(pair, *numbers):
    return all(abs(number) <= SMALL for number in pair + numbers)


def bounded(function):
    @functools.wraps(function)
    def asked(*handed):
        if all_small(*handed):
            return function(*handed)
        steps = 0

        def count(frame, event, value):
            nonlocal steps
            steps += 1
            if steps > MOST_STEPS:
                raise TooManySteps(function.__name__)
            return count

        earlier = sys.gettrace()
        sys.settrace(count)
        try:
            return function(*handed)
        finally:
            sys.settrace(earlier)

    return asked


quotients = bounded(pairs.quotients)
moves = bounded(pairs.moves)
taken = bounded(pairs.taken)
worth = bounded(worths.worth)
leading = bounded(worths.leading)
