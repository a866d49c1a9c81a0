"""Points [4] and [20]: the desk, its rows and its refusals."""

import random
import re
import unittest

from evenquay.desk import Desk
from evenquay.errors import NoName, NoRow, NoShip, NoText, QuayError
from evenquay.fleets import is_ship
from evenquay.peaks import peak
from tests.refused import RefusalCase
from tests.samples import (
    FAR, GREAT_MOST, GREAT_NEED, ODDITIES, WRONG_NAMES, WRONG_NUMBERS, drawn_fleets, drawn_ship, edited, every_marks,
    fewest_above, one_changed, shifted, slow_marked, slow_peak, slow_stretches, slow_want, small_fleets, told_text,
    turned,
)

TEXT = "a 0 4 5 2; b 2 6 3 1"
NAMES = tuple("abcdefgh")

# One of each row that asks and one of each that changes, all of a desk with the ships of TEXT.
ASKING = ("peak", "above 1", "row", "cost 1 2", "cranes a 0", "load 0", "fleet")
CHANGING = ("ship c 0 1 3 3", "gone a")

# By the words of the interface, to hold the program against.
NAME = "[a-z]{1,8}"
NUMBER = "(?:0|-?[1-9][0-9]{0,30})"
SHAPES = (
    f"ship {NAME} {NUMBER} {NUMBER} {NUMBER} {NUMBER}", f"gone {NAME}", "peak", f"above {NUMBER}", "row",
    f"cost {NUMBER}(?: {NUMBER}){{0,19}}", f"cranes {NAME} {NUMBER}", f"load {NUMBER}", "fleet",
)


def is_row(text):
    """Whether a text is one of the rows, by patterns."""
    if not any(re.fullmatch(shape, text) for shape in SHAPES):
        return False
    words = text.split(" ")
    numbers = [int(word) for word in words[1:] if not word.isalpha()]
    if words[0] == "ship":
        return all(abs(numbers[place]) <= FAR for place in (0, 1)) and 0 <= numbers[3] <= GREAT_MOST
    if words[0] == "above":
        return numbers[0] >= 0
    if words[0] == "cost":
        return all(less <= more for less, more in zip(numbers, numbers[1:]))
    return all(abs(number) <= FAR for number in numbers)


def refusal_due(text, names):
    """The class with which a row is refused, the first due by the words of [20], or None."""
    if not is_row(text):
        return NoRow
    words = text.split(" ")
    if words[0] in ("gone", "cranes") and words[1] not in names or words[0] == "ship" and words[1] in names:
        return NoName
    if words[0] == "ship" and not is_ship(tuple(map(int, words[2:]))):
        return NoShip
    return None


def asked_of(names, hours):
    """Rows that ask for all that a desk tells."""
    rows = ["peak", "row", "fleet", "cost 5", "cost -3 -3 0 1 7", "cost 0 0 1"]
    rows += [f"above {k}" for k in (0, 1, 2, 3, 7, 10 ** 31 - 1)]
    rows += [f"load {hour}" for hour in hours]
    return rows + [f"cranes {name} {hour}" for name in names for hour in hours]


def all_told(desk, names, hours=range(-5, 13)):
    return [desk.say(row) for row in asked_of(names, hours)]


def names_of(desk):
    return [ship.split(" ")[0] for ship in desk.say("fleet").split("; ") if ship]


def fleet_of(desk):
    return [tuple(map(int, ship.split(" ")[1:])) for ship in desk.say("fleet").split("; ") if ship]


def drawn_row(source, names):
    """A row that changes the fleet: for a new name a ship, and for another one its going."""
    name = source.choice(NAMES)
    if name in names:
        return f"gone {name}"
    return " ".join(("ship", name) + tuple(map(str, drawn_ship(source))))


def row_told(text):
    return [tuple(map(int, pair.split("x"))) for pair in text.split(" ") if pair]


class DeskCase(RefusalCase):
    def assert_one_even_plan(self, desk):
        """By its cranes and loads, hour by hour: each ship has its need, and all that is told agrees with them."""
        fleet = fleet_of(desk)
        names = names_of(desk)
        hours = [hour for stretch in slow_stretches(fleet) for hour in range(*stretch)]
        loads = {hour: int(desk.say(f"load {hour}")) for hour in hours}
        by_ships = dict.fromkeys(hours, 0)
        for name, (begin, end, need, most) in zip(names, fleet):
            working = {hour: int(desk.say(f"cranes {name} {hour}")) for hour in hours}
            self.assertEqual(sum(working[hour] for hour in range(begin, end)), need)
            for hour in hours:
                self.assertTrue(0 <= working[hour] <= (most if begin <= hour < end else 0), (fleet, name, hour))
                by_ships[hour] += working[hour]
        self.assertEqual(by_ships, loads)
        self.assert_loads(desk, fleet, list(loads.values()))

    def assert_loads(self, desk, fleet, loads):
        self.assertEqual(row_told(desk.say("row")), [(load, loads.count(load)) for load in sorted(set(loads))[::-1]])
        self.assertEqual(desk.say("peak"), str(max(loads, default=0)))
        for k in range(sum(ship[3] for ship in fleet) + 1):
            self.assertEqual(desk.say(f"above {k}"), str(sum(max(load - k, 0) for load in loads)))
        for prices in ([2], [-3, 0, 1], [1, 2, 3, 4, 5], [0, 0, 1]):
            spent = sum(prices[min(crane, len(prices) - 1)] for load in loads for crane in range(load))
            self.assertEqual(desk.say("cost " + " ".join(map(str, prices))), str(spent))


class Rows(DeskCase):
    def test_each_row(self):
        desk = Desk(TEXT)
        self.assertEqual(desk.say("peak"), "2")
        self.assertEqual([desk.say(f"above {k}") for k in range(4)], ["8", "2", "0", "0"])
        self.assertEqual(desk.say("row"), "2x2 1x4")
        self.assertEqual(desk.say("cost 1"), "8")
        self.assertEqual(desk.say("cost 1 2"), "10")
        self.assertEqual(desk.say("cost -3 -3 5"), "-24")
        self.assertEqual(desk.say("fleet"), TEXT)
        self.assert_one_even_plan(desk)

    def test_all_answers_are_texts(self):
        desk = Desk(TEXT)
        for row in ASKING + CHANGING:
            self.assertIs(type(desk.say(row)), str, row)

    def test_where_one_plan_alone_is_even(self):
        desk = Desk("a 0 1 3 3; b 0 4 3 1")
        self.assertEqual([desk.say(f"load {hour}") for hour in range(-1, 5)], ["0", "3", "1", "1", "1", "0"])
        self.assertEqual([desk.say(f"cranes a {hour}") for hour in range(-1, 5)], ["0", "3", "0", "0", "0", "0"])
        self.assertEqual([desk.say(f"cranes b {hour}") for hour in range(-1, 5)], ["0", "0", "1", "1", "1", "0"])

    def test_no_ships(self):
        for desk in (Desk(), Desk(""), Desk(text="")):
            self.assertEqual([desk.say(row) for row in ("peak", "above 0", "row", "cost 3", "load 0", "fleet")],
                             ["0", "0", "", "0", "0", ""])

    def test_ships_that_want_nothing(self):
        desk = Desk("a 0 3 0 0; b 1 2 0 5")
        self.assertEqual([desk.say(row) for row in ("peak", "above 0", "row", "cost 3", "load 1", "cranes b 1")],
                         ["0", "0", "0x3", "0", "0", "0"])

    def test_hours_that_no_ship_has(self):
        desk = Desk("a 0 2 3 2; b 5 7 2 1")
        self.assertEqual(desk.say("row"), "2x1 1x3 0x3")
        self.assertEqual([desk.say(f"load {hour}") for hour in (-FAR, -1, 2, 4, 7, FAR)], ["0"] * 6)
        self.assertEqual([desk.say(f"cranes a {hour}") for hour in (-FAR, -1, 2, 5, 6, 7, FAR)], ["0"] * 7)

    def test_a_ship_comes_and_goes(self):
        desk = Desk()
        self.assertEqual(desk.say("ship a 0 4 5 2"), "ok")
        self.assertEqual(desk.say("row"), "2x1 1x3")
        self.assertEqual(desk.say("ship b 2 6 3 1"), "ok")
        self.assertEqual(desk.say("fleet"), TEXT)
        self.assertEqual(desk.say("row"), "2x2 1x4")
        self.assertEqual(desk.say("gone a"), "ok")
        self.assertEqual(desk.say("fleet"), "b 2 6 3 1")
        self.assertEqual(desk.say("row"), "1x3 0x1")
        self.assertEqual(desk.say("gone b"), "ok")
        self.assertEqual([desk.say(row) for row in ("row", "fleet", "peak")], ["", "", "0"])

    def test_a_ship_stands_behind_all_others(self):
        desk = Desk("c 0 1 1 1; a 0 1 1 1")
        desk.say("ship b 0 1 1 1")
        self.assertEqual(names_of(desk), ["c", "a", "b"])

    def test_a_name_that_went_may_come_again(self):
        desk = Desk("a 0 4 5 2; b 2 6 3 1; c 0 1 0 0")
        desk.say("gone a")
        self.assertEqual(desk.say("ship a 1 3 2 1"), "ok")
        self.assertEqual(desk.say("fleet"), "b 2 6 3 1; c 0 1 0 0; a 1 3 2 1")
        desk.say("gone a")
        desk.say("gone b")
        self.assertEqual(desk.say("ship b 0 4 5 2"), "ok")
        self.assertEqual(desk.say("fleet"), "c 0 1 0 0; b 0 4 5 2")
        self.assert_one_even_plan(desk)

    def test_the_ship_in_the_middle_goes(self):
        desk = Desk("a 0 2 3 2; b 0 2 1 1; c 1 3 2 2")
        desk.say("gone b")
        self.assertEqual(desk.say("fleet"), "a 0 2 3 2; c 1 3 2 2")
        self.assert_one_even_plan(desk)

    def test_ships_that_are_alike(self):
        desk = Desk("a 0 3 4 2; b 0 3 4 2; c 0 3 4 2")
        self.assertEqual(desk.say("row"), "4x3")
        self.assert_one_even_plan(desk)
        desk.say("gone b")
        self.assertEqual(desk.say("row"), "3x2 2x1")
        self.assertEqual(names_of(desk), ["a", "c"])

    def test_names_like_the_words_of_rows(self):
        desk = Desk("ship 0 1 1 1; ok 0 1 1 1")
        self.assertEqual(desk.say("ship peak 0 1 1 1"), "ok")
        self.assertEqual(desk.say("cranes ship 0"), "1")
        self.assertEqual(desk.say("cranes peak 0"), "1")
        self.assertEqual(desk.say("gone ship"), "ok")
        self.assertEqual(names_of(desk), ["ok", "peak"])

    def test_at_the_bounds_of_the_words(self):
        desk = Desk()
        self.assertEqual(desk.say(f"ship abcdefgh {-FAR} {FAR} {GREAT_NEED} {GREAT_MOST}"), "ok")
        self.assertEqual(desk.say(f"ship z {FAR - 1} {FAR} 0 0"), "ok")
        self.assertEqual(desk.say(f"above {10 ** 31 - 1}"), "0")
        self.assertEqual(desk.say(f"load {-FAR}"), str(GREAT_MOST))
        self.assertEqual(desk.say(f"load {FAR}"), "0")
        self.assertEqual(desk.say(f"cranes abcdefgh {-FAR}"), str(GREAT_MOST))
        self.assertEqual(desk.say(f"cranes z {FAR}"), "0")
        self.assertEqual(desk.say(f"cost {10 ** 31 - 1}"), str(GREAT_NEED * (10 ** 31 - 1)))
        self.assertEqual(desk.say(f"cost {1 - 10 ** 31}"), str(GREAT_NEED * (1 - 10 ** 31)))

    def test_one_to_twenty_prices(self):
        desk = Desk("a 0 1 30 30")
        for many in range(1, 21):
            prices = [price // 2 - 3 for price in range(many)]
            spent = sum(prices) + (30 - many) * prices[-1]
            self.assertEqual(desk.say("cost " + " ".join(map(str, prices))), str(spent))


class Promise(DeskCase):
    def test_above_each_number_just_what_must_be(self):
        for fleet in small_fleets():
            desk = Desk(told_text(fleet))
            wants = [(slow_want(fleet, marks), slow_marked(fleet, marks)) for marks in every_marks(fleet)]
            for k in range(sum(ship[3] for ship in fleet) + 2):
                told = desk.say(f"above {k}")
                self.assertEqual(told, str(max(want - k * hours for want, hours in wants)), (fleet, k))
                self.assertEqual(told, str(fewest_above(fleet, k)), (fleet, k))

    def test_no_plan_has_a_less_peak(self):
        for fleet in small_fleets(30):
            self.assertEqual(Desk(told_text(fleet)).say("peak"), str(slow_peak(fleet)))

    def test_one_even_plan(self):
        for fleet in small_fleets(40) + drawn_fleets(60, 8):
            desk = Desk(told_text(fleet))
            self.assertEqual(desk.say("fleet"), told_text(fleet))
            self.assertEqual(desk.say("peak"), str(peak(fleet)))
            self.assert_one_even_plan(desk)

    def test_the_same_row_in_another_order_moved_along_and_turned_about(self):
        for fleet in drawn_fleets(60, 8):
            told = Desk(told_text(fleet)).say("row")
            for other in (fleet[::-1], shifted(fleet, 10 ** 14), turned(fleet)):
                self.assertEqual(Desk(told_text(other)).say("row"), told)


class InTurn(DeskCase):
    def test_rows_ahead_of_ships_and_behind_them(self):
        source = random.Random(36)
        for _ in range(12):
            desk = Desk()
            for _ in range(14):
                self.assert_one_even_plan(desk)
                self.assertEqual(desk.say(drawn_row(source, names_of(desk))), "ok")
            self.assert_one_even_plan(desk)

    def test_the_fleet_is_what_came_and_did_not_go(self):
        source = random.Random(37)
        for _ in range(20):
            desk = Desk("a 0 4 5 2; h 2 6 3 1")
            kept = ["a 0 4 5 2", "h 2 6 3 1"]
            for _ in range(20):
                row = drawn_row(source, [ship[0] for ship in kept])
                self.assertEqual(desk.say(row), "ok")
                first, _, further = row.partition(" ")
                kept = kept + [further] if first == "ship" else [ship for ship in kept if ship[0] != further]
                self.assertEqual(desk.say("fleet"), "; ".join(kept))

    def test_a_desk_made_anew_tells_the_same(self):
        source = random.Random(38)
        for _ in range(12):
            desk = Desk("a 0 4 5 2; h 2 6 3 1")
            for _ in range(12):
                desk.say(drawn_row(source, names_of(desk)))
                anew = Desk(desk.say("fleet"))
                self.assertEqual(all_told(anew, names_of(desk)), all_told(desk, names_of(desk)))

    def test_the_same_plan_whatever_is_asked_or_refused_between(self):
        source = random.Random(39)
        for fleet in drawn_fleets(40, 6):
            desk = Desk(told_text(fleet))
            names = names_of(desk)
            told = all_told(desk, names)
            between = asked_of(names, range(-3, 3)) + [
                "", "ship", "ship a 0 1 1", "ship zz 0 0 0 0", "gone zz", "cranes zz 0", "above -1", "cost 2 1", None,
            ]
            for row in source.sample(between, len(between)):
                try:
                    desk.say(row)
                except QuayError:
                    pass
            self.assertEqual(all_told(desk, names), told)

    def test_a_ship_that_comes_and_goes_leaves_the_others_as_told(self):
        for fleet in drawn_fleets(40, 6):
            desk = Desk(told_text(fleet))
            told = all_told(desk, names_of(desk))
            desk.say("ship z 0 4 5 2")
            self.assertIn("z", names_of(desk))
            desk.say("gone z")
            # The fleet is the one of a desk made anew, so all that is told is.
            self.assertEqual(all_told(desk, names_of(desk)), told)


class SideBySide(DeskCase):
    def test_two_desks(self):
        source = random.Random(40)
        one, other = Desk(), Desk("a 0 4 5 2")
        for _ in range(20):
            told = all_told(other, names_of(other))
            one.say(drawn_row(source, names_of(one)))
            self.assertEqual(all_told(other, names_of(other)), told)
            told = all_told(one, names_of(one))
            other.say(drawn_row(source, names_of(other)))
            self.assertEqual(all_told(one, names_of(one)), told)

    def test_two_desks_of_one_text(self):
        one, other = Desk(TEXT), Desk(TEXT)
        one.say("gone a")
        other.say("ship c 0 1 3 3")
        self.assertEqual(one.say("fleet"), "b 2 6 3 1")
        self.assertEqual(other.say("fleet"), TEXT + "; c 0 1 3 3")
        self.assertEqual(Desk(TEXT).say("fleet"), TEXT)

    def test_two_desks_without_a_text(self):
        one, other = Desk(), Desk()
        one.say("ship a 0 1 1 1")
        self.assertEqual(other.say("fleet"), "")
        self.assertEqual(Desk().say("fleet"), "")


class Refused(DeskCase):
    def setUp(self):
        self.desk = Desk(TEXT)
        self.told = all_told(self.desk, ("a", "b"))

    def assert_row_refused(self, refusal, row):
        self.assert_refused(refusal, lambda: self.desk.say(row), row)

    def assert_unchanged(self):
        self.assertEqual(all_told(self.desk, ("a", "b")), self.told)

    def test_a_desk_of_what_is_no_text(self):
        for text in tuple(thing for thing in ODDITIES if thing != "") + (
                0, 7, [TEXT], (TEXT,), TEXT + ";", TEXT + " ", " " + TEXT, TEXT + "\n", TEXT + "; a 0 1 0 0",
                "a 0 0 0 0", "a 0 4 9 2", "A 0 1 0 0", "abcdefghi 0 1 0 0", f"a 0 {FAR + 1} 0 0", "a 00 1 0 0",
                "a 0 1 0 -0", "peak"):
            self.assert_refused(NoText, lambda: Desk(text), text)

    def test_what_is_no_text(self):
        for thing in ODDITIES + (0, 1, -7, ["peak"], ("peak",), [["row"]], ("load", 0), ["fleet", "row"]):
            self.assert_row_refused(NoRow, thing)
        self.assert_unchanged()

    def test_a_blank_a_tab_or_a_line_end_more_at_each_place(self):
        for row in ASKING + CHANGING:
            for place in range(len(row) + 1):
                for more in (" ", "\t", "\n", ";", "A", "_"):
                    self.assert_row_refused(NoRow, row[:place] + more + row[place:])
        self.assert_unchanged()

    def test_another_sign_for_a_blank(self):
        for row in ASKING + CHANGING:
            for place, sign in enumerate(row):
                if sign == " ":
                    for other in ("\t", "\n", ",", "; ", "  "):
                        self.assert_row_refused(NoRow, row[:place] + other + row[place + 1:])
        self.assert_unchanged()

    def test_a_blank_fewer(self):
        for row in ("above1", "cost1 2", "cranesa 0", "cranes a0", "load0", "shipc 0 1 3 3", "ship c0 1 3 3",
                    "ship c 01 3 3", "ship c 0 13 3", "ship c 0 1 33", "gonea"):
            self.assert_row_refused(NoRow, row)
        self.assert_unchanged()

    def test_words_that_begin_no_row(self):
        for row in ("", " ", "x", "PEAK", "Peak", "peaks", "pea", "even", "reason 1", "plan", "chain", "ok", "want",
                    "fits 2", "name a", "ship;", "peak;", "0", "a", "a 0 4 5 2", TEXT, "__init__", "say", "names"):
            self.assert_row_refused(NoRow, row)
        self.assert_unchanged()

    def test_a_word_more_or_fewer(self):
        for row in ASKING + CHANGING:
            words = row.split(" ")
            for more in ("0", "a", "c", "row"):
                if words[0] != "cost" or more != "0":
                    self.assert_row_refused(NoRow, f"{row} {more}")
            if words[0] != "cost":
                for place in range(1, len(words)):
                    self.assert_row_refused(NoRow, " ".join(words[:place] + words[place + 1:]))
        self.assert_row_refused(NoRow, "cost")
        self.assert_row_refused(NoRow, "cost 1 0")
        self.assert_unchanged()

    def test_numbers_that_are_none(self):
        for row in ASKING + CHANGING:
            words = row.split(" ")
            for place, word in enumerate(words):
                if word.isdigit():
                    for wrong in WRONG_NUMBERS + ("K", "H", "P", ".."):
                        self.assert_row_refused(NoRow, " ".join(one_changed(words, place, wrong)))
        self.assert_unchanged()

    def test_names_that_are_none(self):
        for wrong in WRONG_NAMES:
            for row in (f"ship {wrong} 0 1 1 1", f"gone {wrong}", f"cranes {wrong} 0"):
                self.assert_row_refused(NoRow, row)
        self.assert_unchanged()

    def test_a_number_one_beyond_its_bound(self):
        for row in (f"ship c {-FAR - 1} 0 0 0", f"ship c 0 {FAR + 1} 0 0", f"ship c 0 1 0 {GREAT_MOST + 1}",
                    "ship c 0 1 0 -1", f"ship c {FAR + 1} 0 0 0", f"ship c 0 {-FAR - 1} 0 0", "above -1",
                    f"above {10 ** 31}", f"load {FAR + 1}", f"load {-FAR - 1}", f"cranes a {FAR + 1}",
                    f"cranes a {-FAR - 1}", f"cost {10 ** 31}", f"cost {-10 ** 31}", f"ship c 0 1 {10 ** 31} 1",
                    f"ship c 0 1 {-10 ** 31} 1"):
            self.assert_row_refused(NoRow, row)
        self.assert_unchanged()

    def test_prices(self):
        self.desk.say("cost" + " 0" * 20)
        for row in ("cost", "cost ", "cost" + " 0" * 21, "cost 1 0", "cost 0 -1", "cost 1 2 3 2", "cost 5 5 4 9",
                    "cost 10 9", "cost -1 -2", "cost 1  2", "cost P", "cost 1 .."):
            self.assert_row_refused(NoRow, row)
        self.assert_unchanged()

    def test_names_that_are_not_there_and_names_that_are(self):
        for row in ("gone c", "gone ab", "gone aa", "gone z", "cranes c 0", "cranes ab 0", f"cranes z {FAR}",
                    "ship a 0 1 1 1", "ship b 0 4 5 2", "ship a 0 4 5 2", "gone ship", "cranes gone 0"):
            self.assert_row_refused(NoName, row)
        self.assert_unchanged()

    def test_a_name_that_went_is_not_there(self):
        self.desk.say("gone a")
        self.assert_row_refused(NoName, "gone a")
        self.assert_row_refused(NoName, "cranes a 0")
        self.desk.say("ship c 0 1 0 0")
        self.assert_row_refused(NoName, "ship c 5 6 0 0")
        self.assertEqual(self.desk.say("fleet"), "b 2 6 3 1; c 0 1 0 0")

    def test_four_numbers_that_are_no_ship(self):
        for numbers in ("0 0 0 0", "1 0 0 0", "5 -5 0 1", "0 4 9 2", "0 4 1 0", "0 4 -1 2", f"0 4 {10 ** 31 - 1} 2",
                        f"0 4 {1 - 10 ** 31} 2", f"{FAR} {-FAR} 0 {GREAT_MOST}",
                        f"{-FAR} {FAR} {GREAT_NEED + 1} {GREAT_MOST}"):
            self.assert_row_refused(NoShip, f"ship c {numbers}")
        self.assert_unchanged()

    def test_no_row_ahead_of_no_name_and_of_no_ship(self):
        for row in ("ship a 0 1 1 -1", f"ship a 0 {FAR + 1} 0 0", "ship a 0 1 1 01", "ship c 0 0 0 -1",
                    "ship c 1 0 00 0", f"ship a 5 5 0 {GREAT_MOST + 1}", f"cranes z {FAR + 1}", "cranes z -0",
                    "gone z ", "gone z 0", "ship a 0 1 1", "ship a 4 4 0 0 0", f"ship a 0 1 {'9' * 32} 1",
                    f"ship c {-FAR - 1} {-FAR - 1} 0 0"):
            self.assert_row_refused(NoRow, row)
        self.assert_unchanged()

    def test_no_name_ahead_of_no_ship(self):
        for row in ("ship a 0 0 0 0", "ship b 5 4 0 0", "ship a 0 1 -1 1", "ship b 0 4 9 2", "ship a 0 4 1 0"):
            self.assert_row_refused(NoName, row)
        self.assert_unchanged()

    def test_edited_rows(self):
        source = random.Random(41)
        signs = ["", "", " ", "-", "0", "1", "9", "a", "b", "c", "B", "+", "_", "\t", "\n", ";"]
        dues = []
        more = ("cost -1 0 5", "cranes b 12", "ship cc -5 10 20 3", "above 20", "gone b") + ("ship c 4 5 6 7",) * 5
        for row in (ASKING + CHANGING + more) * 120:
            text = edited(row, source, signs)
            due = refusal_due(text, ("a", "b"))
            dues.append(due)
            if due is None:
                self.assertIs(type(Desk(TEXT).say(text)), str, text)
            else:
                self.assert_row_refused(due, text)
        for due in (None, NoRow, NoName, NoShip):
            self.assertGreater(dues.count(due), 5, due)
        self.assert_unchanged()

    def test_refused_of_a_desk_without_ships(self):
        desk = Desk()
        for row in ("gone a", "cranes a 0"):
            self.assert_refused(NoName, lambda: desk.say(row), row)
        self.assert_refused(NoShip, lambda: desk.say("ship a 0 0 0 0"))
        self.assert_refused(NoRow, lambda: desk.say(""))
        self.assertEqual(desk.say("fleet"), "")
        self.assertEqual(desk.say("ship a 0 1 0 0"), "ok")


if __name__ == "__main__":
    unittest.main()
