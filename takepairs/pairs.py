"""One pair of piles: its quotients and the moves in it."""

from takepairs.errors import NoMove, NoPair


def check_pair(pair):
    for pile in pair:
        if pile < 1 or pile > 10 ** 30:
            raise NoPair("a pile is a whole number from 1 to 10 ** 30")


def quotients(pair):
    check_pair(pair)
    greater = max(pair)
    lesser = min(pair)
    found = []
    while lesser > 0:
        found.append(greater // lesser)
        rest = greater % lesser
        greater = lesser
        lesser = rest
    return found


def moves(pair):
    check_pair(pair)
    # One of the greater pile must stay, so only what lies above it can be taken.
    return (max(pair) - 1) // min(pair)


def taken(pair, times):
    # Counted first, so that a pair that is none is refused ahead of the move.
    most = moves(pair)
    if times < 1 or times > most:
        raise NoMove("the lesser pile can't be taken so many times")
    left = max(pair) - times * min(pair)
    if pair[0] > pair[1]:
        return (left, pair[1])
    return (pair[0], left)
