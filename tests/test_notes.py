"""Tables as texts and texts as tables (point 13)."""

import itertools
import re
import unittest

from prompt import read, shown
from reckoning import MOST, great_tables, small_tables
from refusals import Refusals
from takepairs.errors import NoNote, NoPair, NoTable
from takepairs.notes import read as read_any_length

NUMBER = "(?:0|[1-9][0-9]{0,30})"
MAKE = re.compile(f"(?:{NUMBER}/{NUMBER}(?: {NUMBER}/{NUMBER})*)?")
# Each sign that a text may have, but for the figures.
OTHER_SIGNS = ["\t", "\n"] + [chr(code) for code in range(ord(" "), ord("~") + 1) if chr(code) not in "%0123456789"]


class Shown(unittest.TestCase):
    def test_as_the_document_has_it(self):
        self.assertEqual(shown([(5, 2), (7, 7)]), "5/2 7/7")

    def test_written_out(self):
        self.assertEqual(shown([]), "")
        self.assertEqual(shown([(5, 2)]), "5/2")
        self.assertEqual(shown([(2, 5)]), "2/5")
        self.assertEqual(shown([(10, 200)]), "10/200")
        self.assertEqual(shown([(MOST, 1)]), "1" + "0" * 30 + "/1")
        self.assertEqual(shown([(1, 2), (3, 4), (5, 6), (7, 8), (9, 10), (11, 12)]), "1/2 3/4 5/6 7/8 9/10 11/12")

    def test_a_text(self):
        for table in ([], [(5, 2)], [(5, 2)] * 6):
            self.assertIs(type(shown(table)), str)


class ReadAgain(unittest.TestCase):
    def test_what_is_shown_is_read_to_the_same_table(self):
        small = small_tables(12, 1) + small_tables(7, 2) + small_tables(3, 3)
        for table in [[]] + small + great_tables() + [[(MOST, MOST)] * 6]:
            self.assertEqual(read(shown(table)), table)

    def test_what_is_read_is_shown_as_the_same_text(self):
        for text in ("", "5/2 7/7", "7/7 5/2", "1/1", "10/9 100/99", "1" + "0" * 30 + "/" + "9" * 30):
            self.assertEqual(shown(read(text)), text)


class Read(unittest.TestCase):
    def test_written_out(self):
        self.assertEqual(read("5/2 7/7"), [(5, 2), (7, 7)])
        self.assertEqual(read(""), [])
        self.assertEqual(read("2/5"), [(2, 5)])
        self.assertEqual(read("10/200"), [(10, 200)])
        self.assertEqual(read("1/2 3/4 5/6 7/8 9/10 11/12"), [(1, 2), (3, 4), (5, 6), (7, 8), (9, 10), (11, 12)])

    def test_the_greatest_pile(self):
        greatest = "1" + "0" * 30
        self.assertEqual(read(f"{greatest}/1 1/{greatest}"), [(MOST, 1), (1, MOST)])
        self.assertEqual(read(f"{'9' * 30}/{'1' * 30}"), [(MOST - 1, MOST // 9)])

    def test_a_list_of_tuples(self):
        for text in ("", "5/2", "5/2 7/7"):
            told = read(text)
            self.assertIs(type(told), list)
            for pair in told:
                self.assertIs(type(pair), tuple)
                self.assertEqual([type(pile) for pile in pair], [int, int])


class NoNoteIsRefused(Refusals):
    def test_written_out(self):
        for text in (" ", "  ", "\n", "\t", " 5/2", "5/2 ", "5/2  7/7", "5 /2", "5/ 2",
                     "5/2\n", "\n5/2", "5/2\t7/7", "5/2\n7/7", "5/2 \n7/7",
                     "/", "//", "5", "5/", "/2", "5/2/", "/5/2", "5//2", "5/2/1", "5 2", "5/2 7", "5/2/7/7",
                     "5/2 /", "5/2 7/", "5/2 /7", "5/2, 7/7", "5/2,7/7", "-5/2", "+5/2", "5/-2", "5/+2", "-0/1",
                     "5.0/2", "5_0/2", "5e1/2", "0x5/2", "a/b", "five/two", "(5, 2)", "[]", "5:2", "5\\2", "5|2"):
            self.refused(NoNote, read, text)

    def test_a_nought_ahead_of_a_number(self):
        for text in ("00/1", "01/1", "1/00", "1/01", "000/1", "05/2", "5/02", "5/2 07/7", "5/2 7/07", "010/1", "00/00",
                     "0" * 31 + "/1", "0" * 30 + "1/1", "0" * 32 + "/1", "0" * 100 + "/1"):
            self.refused(NoNote, read, text)

    def test_a_number_of_more_than_31_figures(self):
        for count in (32, 33, 100, 4300, 4301, 10000):
            for number in ("1" * count, "1" + "0" * (count - 1), "9" * count, "0" * count):
                self.refused(NoNote, read, number + "/1")
                self.refused(NoNote, read, "1/" + number)
                self.refused(NoNote, read, "5/2 1/" + number)
                self.refused(NoNote, read, number)

    def test_any_other_sign_anywhere(self):
        for text in ("", "5/2", "5/2 7/7", "12/34 56/78"):
            for place in range(len(text) + 1):
                for sign in OTHER_SIGNS:
                    self.refused(NoNote, read, text[:place] + sign + text[place:])

    def test_any_other_sign_in_the_place_of_one(self):
        for text in ("5/2", "5/2 7/7", "1/3 5/2"):
            for place, earlier in enumerate(text):
                for sign in OTHER_SIGNS:
                    if sign != earlier:
                        self.refused(NoNote, read, text[:place] + sign + text[place + 1:])

    def test_ahead_of_no_table_and_no_pair(self):
        seven = ["5/2"] * 7
        for wrong in ("5/", "5", "", "05/2", "5/2/1", "x/y", "1" * 32 + "/1", "5/2\n"):
            for place in range(7):
                self.refused(NoNote, read, " ".join(seven[:place] + [wrong] + seven[place + 1:]))
            self.refused(NoNote, read, "0/1 " + wrong)
            self.refused(NoNote, read, wrong + " 0/1")
            self.refused(NoNote, read, " ".join(["0/1"] * 7 + [wrong]))
        self.refused(NoNote, read_any_length, "5/2 " * 5000)


class NoTableIsRefused(Refusals):
    def test_seven_pairs(self):
        self.refused(NoTable, read, " ".join(["5/2"] * 7))
        self.refused(NoTable, read, "1/2 3/4 5/6 7/8 9/10 11/12 13/14")
        self.refused(NoTable, read, " ".join(["1/1"] * 8))
        self.refused(NoTable, read_any_length, " ".join(["1/1"] * 5000))

    def test_ahead_of_no_pair(self):
        seven = ["5/2"] * 7
        for wrong in ("0/1", "1/0", "0/0", "1" + "0" * 29 + "1/1", "9" * 31 + "/1", "1/" + "9" * 31):
            for place in range(7):
                self.refused(NoTable, read, " ".join(seven[:place] + [wrong] + seven[place + 1:]))
            self.refused(NoTable, read, " ".join([wrong] * 7))


class NoPairIsRefused(Refusals):
    def test_a_pile_of_nought_or_above_the_greatest(self):
        for number in ("0", "1" + "0" * 29 + "1", "1" + "0" * 29 + "2", "2" + "0" * 30, "9" * 31):
            for wrong in (f"{number}/1", f"1/{number}", f"{number}/{number}"):
                for length in range(1, 7):
                    for place in range(length):
                        parts = ["5/2"] * length
                        parts[place] = wrong
                        self.refused(NoPair, read, " ".join(parts))


class AllShortTexts(Refusals):
    def test_by_their_make(self):
        for length in range(7):
            for signs in itertools.product("017/ -", repeat=length):
                text = "".join(signs)
                if not MAKE.fullmatch(text):
                    self.refused(NoNote, read, text)
                    continue
                parts = [part.split("/") for part in text.split(" ") if part]
                if any("0" in part for part in parts):
                    self.refused(NoPair, read, text)
                else:
                    self.assertEqual(read(text), [(int(first), int(second)) for first, second in parts])


if __name__ == "__main__":
    unittest.main()
