"""Point [19]: texts that tell a fleet with names, forth and back."""

import random
import re
import unittest

from evenquay.errors import NoText
from evenquay.fleets import is_fleet
from evenquay.texts import read_fleet, show_fleet
from tests.refused import RefusalCase
from tests.samples import (
    FAR, GREAT_MOST, GREAT_NEED, ODDITIES, WRONG_NAMES, WRONG_NUMBERS, drawn_fleets, edited, great_case, great_fleets,
    one_changed, told_text,
)

TEXT = "ab -3 4 15 20; b 10 26 3 1"

# By the words of [19], to hold the program against.
NUMBER = "(0|-?[1-9][0-9]{0,30})"
SHIP = f"([a-z]{{1,8}}) {NUMBER} {NUMBER} {NUMBER} {NUMBER}"


def slow_read(text):
    """What a text tells, by one pattern, or None where it is none."""
    if not re.fullmatch(f"({SHIP}(; {SHIP})*)?", text):
        return None
    told = re.findall(SHIP, text)
    names = [row[0] for row in told]
    fleet = [tuple(map(int, row[1:])) for row in told]
    within = all(max(abs(ship[0]), abs(ship[1]), ship[3]) <= FAR for ship in fleet)
    if not within or not is_fleet(fleet) or len(set(names)) < len(names):
        return None
    return (names, fleet)


class Read(unittest.TestCase):
    def assert_forth_and_back(self, text):
        told = read_fleet(text)
        self.assertIs(type(told), tuple)
        names, fleet = told
        self.assertIs(type(names), list)
        self.assertIs(is_fleet(fleet), True, text)
        self.assertTrue(all(type(name) is str for name in names), names)
        self.assertEqual(told, slow_read(text))
        self.assertEqual(show_fleet(names, fleet), text)

    def test_ordinary(self):
        self.assertEqual(read_fleet(TEXT), (["ab", "b"], [(-3, 4, 15, 20), (10, 26, 3, 1)]))
        self.assertEqual(show_fleet(["ab", "b"], [(-3, 4, 15, 20), (10, 26, 3, 1)]), TEXT)
        self.assert_forth_and_back(TEXT)

    def test_no_ships(self):
        self.assertEqual(read_fleet(""), ([], []))
        self.assertEqual(show_fleet([], []), "")

    def test_one_ship(self):
        self.assertEqual(read_fleet("a 0 1 0 0"), (["a"], [(0, 1, 0, 0)]))
        self.assert_forth_and_back("a 0 1 0 0")
        self.assert_forth_and_back("zzzzzzzz -1 0 5 5")

    def test_names(self):
        for name in ("a", "z", "az", "abcdefgh", "stuvwxyz", "ijklmnop", "ship", "peak", "x" * 8):
            self.assert_forth_and_back(f"{name} 0 1 1 1")
        self.assert_forth_and_back("a 0 1 1 1; aa 0 1 1 1; b 0 1 1 1; aaa 0 1 1 1")

    def test_the_order_stays(self):
        self.assertEqual(read_fleet("c 0 1 0 0; a 5 6 1 2; b 0 1 0 0")[0], ["c", "a", "b"])
        self.assert_forth_and_back("c 0 1 0 0; a 5 6 1 2; b 0 1 0 0")

    def test_at_the_bounds_of_the_numbers(self):
        self.assert_forth_and_back(f"a {-FAR} {FAR} {GREAT_NEED} {GREAT_MOST}")
        self.assert_forth_and_back(f"a {-FAR} {-FAR + 1} {GREAT_MOST} {GREAT_MOST}")
        self.assert_forth_and_back(f"a {FAR - 1} {FAR} 0 {GREAT_MOST}")
        self.assert_forth_and_back(f"a {-FAR} {FAR} 0 0")
        self.assert_forth_and_back("a -10 -9 0 0; b -1 10 100 100")

    def test_eight_ships(self):
        self.assert_forth_and_back(told_text(great_case()[0]))
        for fleet in great_fleets(20):
            self.assert_forth_and_back(told_text(fleet))

    def test_drawn_fleets(self):
        for fleet in drawn_fleets(150, 8):
            self.assert_forth_and_back(told_text(fleet))

    def test_somewhat_more_ships_are_not_refused(self):
        self.assert_forth_and_back(told_text([(number, number + 1, 1, 1) for number in range(10)]))


class Refused(RefusalCase):
    def assert_no_text(self, text):
        self.assert_refused(NoText, lambda: read_fleet(text), text)

    def test_what_is_no_text(self):
        for thing in ODDITIES + (0, 1, -7, [TEXT], (TEXT,), [["ab"], [(-3, 4, 15, 20)]], (["ab"], [(-3, 4, 15, 20)])):
            if thing != "":
                self.assert_no_text(thing)

    def test_a_blank_more_at_each_place(self):
        for place in range(len(TEXT) + 1):
            self.assert_no_text(TEXT[:place] + " " + TEXT[place:])

    def test_a_blank_fewer_at_each_place(self):
        for place, sign in enumerate(TEXT):
            if sign == " ":
                self.assert_no_text(TEXT[:place] + TEXT[place + 1:])

    def test_blanks_alone(self):
        for text in (" ", "  ", "    ", " " * 9):
            self.assert_no_text(text)

    def test_another_sign_for_a_blank(self):
        for place, sign in enumerate(TEXT):
            if sign == " ":
                for other in "\t\n,;_-":
                    self.assert_no_text(TEXT[:place] + other + TEXT[place + 1:])

    def test_a_semicolon_alone_or_at_an_end(self):
        for text in (";", "; ", " ;", "; ;", ";;", "; ; ", ";" + TEXT, "; " + TEXT, TEXT + ";", TEXT + "; ",
                     TEXT + " ;", TEXT.replace("; ", ";"), TEXT.replace("; ", " ; "), TEXT.replace("; ", ";; "),
                     TEXT.replace("; ", "; ; "), TEXT.replace("; ", " "), TEXT.replace("; ", ", ")):
            self.assert_no_text(text)

    def test_a_semicolon_a_tab_or_a_line_end_at_each_place(self):
        for place in range(len(TEXT) + 1):
            for more in (";", "; ", "\t", "\n", "\r"):
                self.assert_no_text(TEXT[:place] + more + TEXT[place:])

    def test_numbers_that_are_none(self):
        for wrong in WRONG_NUMBERS:
            for place in range(1, 5):
                # As good a ship as can be with each number that Python would read there.
                words = one_changed(["a", "-9", "9", "9", "9"], place, wrong)
                self.assert_no_text(" ".join(words))
                self.assert_no_text("b 0 1 1 1; " + " ".join(words))
        for words in ("a 00 1 0 0", "a -0 1 0 0", "a +0 1 0 0", "a 0 01 0 0", "a 0 +1 0 0", "a 0 1 00 0", "a 0 1 -0 0",
                      "a 0 1 0 00", "a 0 1 0 -0", "a 0 1_0 0 0", "a 0 1 1 1_0", f"a 0 1 {'0' * 31} 0", "a --1 1 0 0"):
            self.assert_no_text(words)

    def test_thirty_two_figures(self):
        for most in (GREAT_MOST, 10 ** 31):
            self.assert_no_text(f"a {-FAR} {FAR} {10 ** 31} {most}")
        self.assert_no_text(f"a 0 1 0{'0' * 31} 0")

    def test_a_number_one_beyond_its_bound(self):
        for text in (f"a {-FAR - 1} 0 0 0", f"a 0 {FAR + 1} 0 0", f"a {FAR} {FAR + 1} 0 0",
                     f"a {-FAR - 1} {-FAR} 0 0", f"a 0 1 0 {GREAT_MOST + 1}", f"a 0 1 1 {GREAT_MOST + 1}",
                     f"a {-FAR} {FAR} {GREAT_NEED + 1} {GREAT_MOST}", "a 0 1 0 -1", "a 0 1 -1 0"):
            self.assert_no_text(text)

    def test_four_numbers_that_are_no_ship(self):
        for numbers in ("0 0 0 0", "1 0 0 0", "5 -5 0 1", "0 4 9 2", "0 4 1 0", "0 4 -1 2", "0 4 0 -1", "0 1 2 1"):
            self.assert_no_text(f"a {numbers}")
            self.assert_no_text(f"a {numbers}; b 0 1 1 1")
            self.assert_no_text(f"b 0 1 1 1; a {numbers}")

    def test_names_that_are_none(self):
        for name in WRONG_NAMES:
            self.assert_no_text(f"{name} 0 1 1 1")
            self.assert_no_text(f"b 0 1 1 1; {name} 0 1 1 1")

    def test_a_name_twice(self):
        self.assert_no_text("a 0 1 1 1; a 0 1 1 1")
        self.assert_no_text("a 0 1 1 1; b 0 1 1 1; a 4 5 0 0")
        self.assert_no_text("b 0 1 1 1; abcdefgh 0 1 1 1; abcdefgh 0 2 1 1")

    def test_a_word_more_or_fewer(self):
        words = ["a", "0", "4", "3", "2"]
        for place in range(5):
            self.assert_no_text(" ".join(words[:place] + words[place + 1:]))
            self.assert_no_text(" ".join(words[:place] + [words[place]] + words[place:]))
        self.assert_no_text("a 0 4 3 2 b 0 4 3 2")
        self.assert_no_text("a 0 4 3; 2")

    def test_edited_texts(self):
        source = random.Random(35)
        signs = ["", "", " ", ";", "-", "0", "1", "9", "a", "B", "+", "\t", "\n"]
        kept = 0
        for fleet in drawn_fleets(100, 3):
            for _ in range(25):
                text = edited(told_text(fleet), source, signs)
                told = slow_read(text)
                if told is None:
                    self.assert_no_text(text)
                else:
                    kept += 1
                    self.assertEqual(read_fleet(text), told, text)
        # Some edited texts still tell a fleet, most tell none.
        self.assertTrue(50 < kept < 1500, kept)


if __name__ == "__main__":
    unittest.main()
