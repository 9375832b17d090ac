"""What the tests reckon for themselves, and the pairs that they share."""

MOST = 10 ** 30


def both_ways(pairs):
    """Each pair with either pile first."""
    return list(pairs) + [(second, first) for first, second in pairs]


def small_pairs(most):
    return [(first, second) for first in range(1, most + 1) for second in range(1, most + 1)]


def sum_neighbours():
    """The greatest two neighbours, up to MOST, among the numbers each of which is the sum of the two ahead."""
    lesser, greater = 1, 1
    while lesser + greater <= MOST:
        lesser, greater = greater, lesser + greater
    return lesser, greater


def great_pairs():
    lesser, greater = sum_neighbours()
    earlier = greater - lesser
    return both_ways([
        (MOST, 1), (MOST, 2), (MOST, 3), (MOST, 7), (MOST - 1, 7), (MOST, 10 ** 15), (MOST, 10 ** 15 + 1),
        (MOST, 10 ** 15 - 1), (MOST, MOST), (MOST, MOST - 1), (MOST, MOST - 2), (MOST, MOST - 3),
        (MOST, MOST // 2), (MOST, MOST // 2 + 1), (MOST, MOST // 2 - 1), (MOST, MOST // 3),
        (3 * 10 ** 29 + 1, 10 ** 29), (4 * 10 ** 29 - 1, 10 ** 29), (5 * 10 ** 29 + 2, 10 ** 29),
        (greater, lesser), (lesser, earlier), (2 * earlier + 1, earlier), (greater, earlier),
    ])


def divided(greater, lesser):
    """The quotients by taking away alone, for small piles."""
    found = []
    while lesser:
        times = 0
        while greater >= lesser:
            greater -= lesser
            times += 1
        found.append(times)
        greater, lesser = lesser, greater
    return found


def moves_gone_through(pair):
    """A dict of the number of times and the pair behind the move, for small piles."""
    first, second = pair
    behind = {}
    times = 1
    while first > second and first - times * second >= 1:
        behind[times] = (first - times * second, second)
        times += 1
    while second > first and second - times * first >= 1:
        behind[times] = (first, second - times * first)
        times += 1
    return behind


def least_missing(numbers):
    number = 0
    while number in numbers:
        number += 1
    return number


def worths_gone_through(most):
    """The worth of each pair of piles up to most, by the least number that no move leads to."""
    worths = {}
    for pair in sorted(small_pairs(most), key=sum):
        worths[pair] = least_missing([worths[behind] for behind in moves_gone_through(pair).values()])
    return worths


def is_whole_part(number, pair):
    """Whether number is the greatest whole one that is no more than greater / lesser - lesser / greater."""
    lesser, greater = sorted(pair)
    difference = greater * greater - lesser * lesser
    unit = greater * lesser
    return number * unit <= difference < (number + 1) * unit
