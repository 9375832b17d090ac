"""Whole games: who is told that it can win never comes to be the one that can't move (points 3, 4, 10)."""

import unittest

from prompt import moved, winning, wins
from reckoning import moves_gone_through, small_tables


def all_moves(table):
    return [(number, times) for number, pair in enumerate(table) for times in moves_gone_through(pair)]


class Games:
    """All games in which one hand keeps to the winning moves that are told, wherever some are."""

    def __init__(self):
        self.known = {}

    def never_stuck(self, table, its_turn):
        """Whether that hand is never the one that can't move."""
        key = (tuple(table), its_turn)
        if key not in self.known:
            self.known[key] = self.gone_through(table, its_turn)
        return self.known[key]

    def gone_through(self, table, its_turn):
        choices = all_moves(table)
        if not choices:
            return not its_turn
        if its_turn:
            choices = winning(table) or choices
        return all(self.never_stuck(moved(table, number, times), not its_turn) for number, times in choices)


class WholeGames(unittest.TestCase):
    def test_from_small_tables(self):
        games = Games()
        for length, most in ((0, 1), (1, 16), (2, 7), (3, 4)):
            for table in small_tables(most, length):
                self.assertTrue(games.never_stuck(table, wins(table)), table)

    def test_from_tables_of_more_pairs(self):
        games = Games()
        for table in ([(5, 2), (3, 4), (2, 1), (7, 3)],
                      [(2, 1), (3, 1), (1, 4), (5, 4), (4, 6)],
                      [(2, 1), (2, 1), (3, 2), (3, 1), (4, 3), (5, 2)],
                      [(4, 3), (4, 3), (5, 4), (5, 4), (2, 5), (5, 2)]):
            self.assertTrue(games.never_stuck(table, wins(table)), table)


if __name__ == "__main__":
    unittest.main()
