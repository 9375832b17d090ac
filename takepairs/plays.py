"""The plays of one pair: how short, how long, and how many."""

from takepairs.errors import TooLong
from takepairs.pairs import quotients


def shortest(pair):
    count = len(quotients(pair))
    if pair[0] == pair[1]:
        return 0
    return count


def longest(pair):
    return sum(quotients(pair)) - 1


def plays(pair):
    most = longest(pair)
    if most > 200:
        raise TooLong("the plays of a pair are counted up to a longest one of 200 moves")
    # Each quotient less one, all added, and one fewer for unlike piles: that is how much longer
    # the longest play is than the shortest, and so how many twos there are.
    count = 1
    for two in range(most - shortest(pair)):
        count = count * 2
    return count
