"""What the tests reckon for themselves, and the pairs that they share."""

import itertools
import math
from fractions import Fraction

MOST = 10 ** 30


def both_ways(pairs):
    """Each pair with either pile first."""
    return list(pairs) + [(second, first) for first, second in pairs]


def small_pairs(most):
    return [(first, second) for first in range(1, most + 1) for second in range(1, most + 1)]


def sum_neighbours():
    """The greatest two neighbours, up to MOST, among the numbers each of which is the sum of the two ahead."""
    lesser, greater = 1, 1
    while lesser + greater <= MOST:
        lesser, greater = greater, lesser + greater
    return lesser, greater


def great_pairs():
    lesser, greater = sum_neighbours()
    earlier = greater - lesser
    return both_ways([
        (MOST, 1), (MOST, 2), (MOST, 3), (MOST, 7), (MOST - 1, 7), (MOST, 10 ** 15), (MOST, 10 ** 15 + 1),
        (MOST, 10 ** 15 - 1), (MOST, MOST), (MOST, MOST - 1), (MOST, MOST - 2), (MOST, MOST - 3),
        (MOST, MOST // 2), (MOST, MOST // 2 + 1), (MOST, MOST // 2 - 1), (MOST, MOST // 3),
        (3 * 10 ** 29 + 1, 10 ** 29), (4 * 10 ** 29 - 1, 10 ** 29), (5 * 10 ** 29 + 2, 10 ** 29),
        (greater, lesser), (lesser, earlier), (2 * earlier + 1, earlier), (greater, earlier),
    ])


def great_tables():
    """Tables of up to six great pairs, each pair at each place, some with pairs of small piles among them."""
    pairs = great_pairs()
    count = len(pairs)
    tables = []
    for length in range(1, 7):
        for start in range(count):
            step = 1 + (start + length) % 7
            tables.append([pairs[(start + step * place) % count] for place in range(length)])
    mixed = [[(5, 2)] + table[:2] + [(7, 7)] + table[2:4] for table in tables]
    return tables + mixed


def balanced_tables():
    """Tables of great piles of which the worth is nought."""
    pairs = great_pairs()
    doubled = [[pair, pair[::-1]] for pair in pairs]
    threefold = [[one, other, third, other, third, one] for one, other, third in zip(pairs, pairs[1:], pairs[2:])]
    # A pair of a pile and 1 is worth the pile less one, so the third worth can be made to fit.
    fitted = [[(one + 1, 1), (1, other + 1), ((one ^ other) + 1, 1)]
              for one in (5, 10 ** 29, 2 ** 98 - 1) for other in (3, 10 ** 20 + 7, 2 ** 97)]
    return doubled + threefold + fitted


def small_tables(most, length):
    """All tables of so many pairs of piles up to most."""
    return [list(pairs) for pairs in itertools.product(small_pairs(most), repeat=length)]


def of_quotients(told):
    """The pair, greater pile first, of piles without a common divisor that has these quotients."""
    above, below = 1, 0
    for quotient in reversed(told):
        above, below = quotient * above + below, above
    return above, below


def divided(greater, lesser):
    """The quotients by taking away alone, for small piles."""
    found = []
    while lesser:
        times = 0
        while greater >= lesser:
            greater -= lesser
            times += 1
        found.append(times)
        greater, lesser = lesser, greater
    return found


def moves_gone_through(pair):
    """A dict of the number of times and the pair behind the move, for small piles."""
    first, second = pair
    behind = {}
    times = 1
    while first > second and first - times * second >= 1:
        behind[times] = (first - times * second, second)
        times += 1
    while second > first and second - times * first >= 1:
        behind[times] = (first, second - times * first)
        times += 1
    return behind


def least_missing(numbers):
    number = 0
    while number in numbers:
        number += 1
    return number


def worths_gone_through(most):
    """The worth of each pair of piles up to most, by the least number that no move leads to."""
    worths = {}
    for pair in sorted(small_pairs(most), key=sum):
        worths[pair] = least_missing([worths[behind] for behind in moves_gone_through(pair).values()])
    return worths


def is_whole_part(number, pair):
    """Whether number is the greatest whole one that is no more than greater / lesser - lesser / greater."""
    lesser, greater = sorted(pair)
    difference = greater * greater - lesser * lesser
    unit = greater * lesser
    return number * unit <= difference < (number + 1) * unit


def whole_part(pair):
    lesser, greater = sorted(pair)
    return math.floor(Fraction(greater, lesser) - Fraction(lesser, greater))


def added_by_figures(numbers):
    """The sum of those of 1, 2, 4, 8 and so on that an odd count of the numbers has."""
    total = 0
    figure = 1
    while any(number >= figure for number in numbers):
        if sum(number // figure % 2 for number in numbers) % 2 == 1:
            total += figure
        figure *= 2
    return total


def table_worth(table):
    return added_by_figures([whole_part(pair) for pair in table])


def behind_move(table, number, times):
    """The table behind a move that is one."""
    first, second = table[number]
    behind = (first - times * second, second) if first > second else (first, second - times * first)
    return table[:number] + [behind] + table[number + 1:]


def plays_gone_through(pair):
    """All plays, each as the tuple of the numbers of times, for small piles."""
    ways = moves_gone_through(pair)
    if not ways:
        return [()]
    return [(times,) + play for times, behind in ways.items() for play in plays_gone_through(behind)]


def lengths_gone_through(most):
    """For each pair of piles up to most a dict of the length of a play and how many plays have it."""
    lengths = {}
    for pair in sorted(small_pairs(most), key=sum):
        found = {}
        for behind in moves_gone_through(pair).values():
            for length, count in lengths[behind].items():
                found[length + 1] = found.get(length + 1, 0) + count
        lengths[pair] = found or {0: 1}
    return lengths
