"""Tables as texts."""

from takepairs.errors import NoNote
from takepairs.tables import check_table


def shown(table):
    check_table(table)
    return " ".join([shown_pair(pair) for pair in table])


def shown_pair(pair):
    return str(pair[0]) + "/" + str(pair[1])


def read(text):
    # Splitting the empty text would give one empty part, not none.
    if text == "":
        return []
    table = [read_pair(part) for part in text.split(" ")]
    # Only now, as a text of another make is refused ahead of a table or a pair that is none.
    check_table(table)
    return table


def read_pair(part):
    numbers = part.split("/")
    if len(numbers) != 2:
        raise NoNote("a pair is written as two numbers with a stroke between")
    return (read_number(numbers[0]), read_number(numbers[1]))


def read_number(figures):
    if not is_number(figures):
        raise NoNote("a number is written by 1 to 31 figures, with no nought ahead")
    return int(figures)


def is_number(figures):
    if len(figures) < 1 or len(figures) > 31:
        return False
    if figures.startswith("0") and figures != "0":
        return False
    # Each sign is asked by itself, as int would also take blanks and signs around the figures.
    for figure in figures:
        if figure not in "0123456789":
            return False
    return True
