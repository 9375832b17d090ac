"""The worth of one pair, and the move in it that leads to a given worth."""

from takepairs.pairs import check_pair, moves, taken


def worth(pair):
    check_pair(pair)
    greater = max(pair)
    lesser = min(pair)
    # The two fractions are brought to one denominator, so that whole numbers are enough.
    return (greater * greater - lesser * lesser) // (greater * lesser)


def leading(pair, aim):
    most = moves(pair)
    whole = max(pair) // min(pair)
    # Where the move leaves the lesser pile j times and a rest, j once or more, the worth behind it
    # is j or j - 1. So only these can fit: the rest alone, and the two nearest to the aim.
    for kept in (0, aim, aim + 1):
        times = whole - kept
        if 1 <= times <= most and worth(taken(pair, times)) == aim:
            return times
    return None
