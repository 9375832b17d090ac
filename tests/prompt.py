"""The program's functions as the tests call them: each answers within a bounded count of steps.

Rows of the program are counted, not seconds, so that a slow way is told from a slow machine and doesn't hang.
"""

import functools
import sys

from takepairs import notes, pairs, plays as counts, tables, worths

MOST_STEPS = 3000
# Among numbers up to this one and texts up to this length no way is slow, and counting would only make the tests so.
SMALL = 1000
SHORT = 40


class TooManySteps(Exception):
    pass


def is_small(handed):
    if isinstance(handed, str):
        return len(handed) <= SHORT
    if isinstance(handed, int):
        return abs(handed) <= SMALL
    return all(is_small(part) for part in handed)


def bounded(function):
    @functools.wraps(function)
    def asked(*handed):
        if is_small(handed):
            return function(*handed)
        steps = 0

        def count(frame, event, value):
            nonlocal steps
            steps += 1
            if steps > MOST_STEPS:
                raise TooManySteps(function.__name__)
            return count

        earlier = sys.gettrace()
        sys.settrace(count)
        try:
            return function(*handed)
        finally:
            sys.settrace(earlier)

    return asked


quotients = bounded(pairs.quotients)
moves = bounded(pairs.moves)
taken = bounded(pairs.taken)
worth = bounded(worths.worth)
leading = bounded(worths.leading)
together = bounded(tables.together)
wins = bounded(tables.wins)
winning = bounded(tables.winning)
moved = bounded(tables.moved)
shortest = bounded(counts.shortest)
longest = bounded(counts.longest)
plays = bounded(counts.plays)
shown = bounded(notes.shown)
read = bounded(notes.read)
