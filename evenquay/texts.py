"""Texts that tell a fleet with names, and the words that such texts are made of."""

from evenquay.errors import NoText
from evenquay.fleets import is_ship

LETTERS = "abcdefghijklmnopqrstuvwxyz"
FIGURES = "0123456789"

# The words that tell a ship, by their kinds.
SHIP_KINDS = ("NAME", "BEGIN", "END", "NEED", "MOST")

# Where the parts of what a text tells, (names, fleet), stand.
NAMES = 0
FLEET = 1


def is_name(word):
    return 1 <= len(word) <= 8 and all([sign in LETTERS for sign in word])


def is_number(word):
    figures = word[1:] if word.startswith("-") else word
    # The length ahead of all: what is longer is never made a number.
    if not 1 <= len(figures) <= 31 or not all([sign in FIGURES for sign in figures]):
        return False
    return word == "0" or not figures.startswith("0")


def is_of_kind(word, kind):
    if kind == "NAME":
        return is_name(word)
    if not is_number(word):
        return False
    number = int(word)
    if kind == "K":
        return number >= 0
    if kind == "MOST":
        return 0 <= number <= 10 ** 15
    if kind in ("BEGIN", "END", "H"):
        return -10 ** 15 <= number <= 10 ** 15
    return True


def are_of_kinds(words, kinds):
    return len(words) == len(kinds) and all([is_of_kind(word, kind) for word, kind in zip(words, kinds)])


def numbers_of(words):
    return [int(word) for word in words]


def ship_of(words):
    # The four numbers as they stand; whether they are a ship is the asker's to look at.
    return tuple(numbers_of(words))


def tells_ship(words):
    return are_of_kinds(words, SHIP_KINDS) and is_ship(ship_of(words[1:]))


def must_be_told(ships):
    if not all([tells_ship(words) for words in ships]):
        raise NoText("no text of a fleet: ships NAME BEGIN END NEED MOST are wanted, parted by a ; and a blank")
    if len(set([words[0] for words in ships])) != len(ships):
        raise NoText("no text of a fleet: a name stands in it twice")


def read_fleet(text):
    if not isinstance(text, str):
        raise NoText("no text")
    if text == "":
        return ([], [])
    ships = [part.split(" ") for part in text.split("; ")]
    must_be_told(ships)
    return ([words[0] for words in ships], [ship_of(words[1:]) for words in ships])


def show_ship(name, ship):
    return " ".join([name] + [str(number) for number in ship])


def show_fleet(names, fleet):
    return "; ".join([show_ship(name, ship) for name, ship in zip(names, fleet)])
