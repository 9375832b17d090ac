"""Tables of pairs: their worths, the winning moves, and the table behind a move."""

from takepairs.errors import NoMove, NoTable
from takepairs.pairs import check_pair, taken
from takepairs.worths import leading, worth


def check_table(table):
    # The length is asked first, so that NoTable comes ahead of NoPair.
    if len(table) > 6:
        raise NoTable("a table has at most 6 pairs")
    for pair in table:
        check_pair(pair)


def together(table):
    check_table(table)
    total = 0
    for pair in table:
        total = total ^ worth(pair)
    return total


def wins(table):
    return together(table) != 0


def winning(table):
    total = together(table)
    found = []
    for number, pair in enumerate(table):
        # The table comes to nought just where this pair is left with what all others come to.
        times = leading(pair, total ^ worth(pair))
        if times is not None:
            found.append((number, times))
    return found


def moved(table, number, times):
    check_table(table)
    if number < 0 or number >= len(table):
        raise NoMove("the table has no pair of this number")
    behind = list(table)
    behind[number] = taken(table[number], times)
    return behind
