"""The desk: it keeps a fleet with names and answers rows."""

from evenquay.dealing import cranes, load
from evenquay.errors import NoName, NoRow, NoShip
from evenquay.evening import even
from evenquay.fleets import is_ship
from evenquay.peaks import peak
from evenquay.plans import above, row_of
from evenquay.prices import cost
from evenquay.texts import FLEET, NAMES, are_of_kinds, is_number, numbers_of, read_fleet, ship_of, show_fleet

# The rows by their first words, with the kinds of the further ones; prices are as many as the asker likes.
ROWS = {
    "ship": ("NAME", "BEGIN", "END", "NEED", "MOST"),
    "gone": ("NAME",),
    "peak": (),
    "above": ("K",),
    "row": (),
    "cranes": ("NAME", "H"),
    "load": ("H",),
    "fleet": (),
}


def are_prices(words):
    if not 1 <= len(words) <= 20 or not all([is_number(word) for word in words]):
        return False
    prices = numbers_of(words)
    return prices == sorted(prices)


def is_row(thing):
    if not isinstance(thing, str):
        return False
    words = thing.split(" ")
    if words[0] == "cost":
        return are_prices(words[1:])
    return words[0] in ROWS and are_of_kinds(words[1:], ROWS[words[0]])


def show_row(counted):
    return " ".join([f"{height}x{hours}" for height, hours in counted])


class Desk:
    def __init__(self, text=""):
        told = read_fleet(text)
        self.keep(told[NAMES], told[FLEET])

    def keep(self, names, fleet):
        # The plan is kept too: it is to be the same one until a ship comes or goes.
        self.names = names
        self.fleet = fleet
        self.plan = even(fleet)

    def say(self, row):
        if not is_row(row):
            raise NoRow("no row that the desk answers")
        words = row.split(" ")
        if words[0] == "ship":
            return self.take_in(words[1], ship_of(words[2:]))
        if words[0] == "gone":
            return self.let_go(self.number_of(words[1]))
        return self.answer(words[0], words[1:])

    def number_of(self, name):
        if name not in self.names:
            raise NoName("no ship has this name")
        return self.names.index(name)

    def take_in(self, name, ship):
        if name in self.names:
            raise NoName("another ship has this name")
        if not is_ship(ship):
            raise NoShip("the four numbers are no ship")
        self.keep(self.names + [name], self.fleet + [ship])
        return "ok"

    def let_go(self, number):
        names = self.names[:number] + self.names[number + 1:]
        fleet = self.fleet[:number] + self.fleet[number + 1:]
        self.keep(names, fleet)
        return "ok"

    def answer(self, asked, words):
        if asked == "peak":
            return str(peak(self.fleet))
        if asked == "above":
            return str(above(self.fleet, self.plan, int(words[0])))
        if asked == "row":
            return show_row(row_of(self.fleet, self.plan))
        if asked == "cost":
            return str(cost(self.fleet, self.plan, numbers_of(words)))
        if asked == "cranes":
            return str(cranes(self.fleet, self.plan, self.number_of(words[0]), int(words[1])))
        if asked == "load":
            return str(load(self.fleet, self.plan, int(words[0])))
        return show_fleet(self.names, self.fleet)
