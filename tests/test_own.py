"""What is handed in is as it was, and what is told is the asker's own (point 1)."""

import unittest

from prompt import (leading, longest, moved, moves, plays, quotients, read, shortest, shown, taken, together, winning,
                    wins, worth)
from reckoning import MOST
from takepairs.errors import TakeError

TABLES = ([], [(7, 7)], [(5, 2)], [(5, 2), (7, 7)], [(4, 1), (4, 1), (1, 4)], [(MOST, 1), (5, 2), (2, 5), (3, 3)],
          [(5, 2)] * 6, [(0, 1)], [(5, 2), (1, MOST + 1)], [(5, 2)] * 7, [(0, 0)] * 8)
# Each tells a list when it is asked, by each function that tells one.
LISTS = (
    lambda: quotients((5, 2)), lambda: quotients((7, 7)), lambda: winning([]), lambda: winning([(7, 7)]),
    lambda: winning([(5, 2)]), lambda: winning([(4, 1), (4, 1), (4, 1)]), lambda: moved([(5, 2)], 0, 1),
    lambda: moved([(7, 7), (5, 2)], 1, 2), lambda: read(""), lambda: read("5/2"), lambda: read("5/2 7/7"),
)


def asked(function, *handed):
    try:
        return function(*handed)
    except TakeError:
        return None


class WhatIsHandedIn(unittest.TestCase):
    def test_a_table_is_as_it_was(self):
        for kept in TABLES:
            table = list(kept)
            for function in (together, wins, winning, shown):
                asked(function, table)
                self.assertEqual(table, kept, function.__name__)
            for number in range(-2, 9):
                for times in range(-1, 4):
                    asked(moved, table, number, times)
                    self.assertEqual(table, kept)

    def test_a_pair_is_as_it_was(self):
        for pair in [(5, 2), (7, 7), (1, MOST)]:
            kept = pair[0], pair[1]
            for function in (quotients, moves, worth, shortest, longest, plays):
                asked(function, pair)
            for function in (taken, leading):
                asked(function, pair, 1)
            self.assertEqual(pair, kept)

    def test_a_table_is_as_it_was_when_what_was_told_is_changed(self):
        for kept in TABLES:
            table = list(kept)
            for told in (asked(winning, table), asked(moved, table, 0, 1)):
                if told is not None:
                    self.assertIsNot(told, table)
                    told.append((99, 98))
                    told[0] = (97, 96)
                    self.assertEqual(table, kept)
                    told.clear()
                    self.assertEqual(table, kept)

    def test_a_table_changed_later_does_not_change_what_was_told(self):
        table = [(5, 2), (7, 7), (4, 1)]
        behind = moved(table, 0, 1)
        told = winning(table)
        expected = list(told)
        table.clear()
        self.assertEqual(behind, [(3, 2), (7, 7), (4, 1)])
        self.assertEqual(told, expected)

    def test_a_table_is_not_kept(self):
        table = [(5, 2)]
        self.assertEqual((together(table), wins(table), winning(table), shown(table)), (2, True, [(0, 1)], "5/2"))
        table[0] = (7, 7)
        self.assertEqual((together(table), wins(table), winning(table), shown(table)), (0, False, [], "7/7"))
        table.append((2, 1))
        self.assertEqual((together(table), wins(table), winning(table), shown(table)), (1, True, [(1, 1)], "7/7 2/1"))


class WhatIsTold(unittest.TestCase):
    def test_no_two_answers_are_one_list(self):
        told = [ask() for ask in LISTS for again in range(3)]
        self.assertEqual(len({id(answer) for answer in told}), len(told))

    def test_a_changed_answer_is_told_again_as_it_was(self):
        for ask in LISTS:
            told = ask()
            kept = list(told)
            told.append(99)
            told[0] = -1
            self.assertEqual(ask(), kept)
            told.clear()
            self.assertEqual(ask(), kept)

    def test_an_earlier_answer_stays_as_it_was(self):
        told = [ask() for ask in LISTS]
        kept = [list(answer) for answer in told]
        for ask in LISTS:
            ask().append(99)
        self.assertEqual(told, kept)

    def test_the_same_each_time(self):
        for table in TABLES:
            for function in (together, wins, winning, shown):
                self.assertEqual(asked(function, table), asked(function, list(table)))


if __name__ == "__main__":
    unittest.main()
