"""Things that several tests use."""

from surelevels.books import Book
from surelevels.errors import BadPart
from surelevels.exacts import Exact

TANK = [("tank", [(10, 2, 1)])]


def small_book(facts=()):
    return Book(0, 10, 0, 100, TANK, facts)


def no_numbers():
    """Objects of many kinds that are no numbers, new ones each time."""
    return [None, True, False, "", "3", "tank", "3/2", [], [3], (), (3, 2), [Exact(3)], {}, {3: 3},
            {"over": 3, "under": 2}, small_book(), BadPart(3)]


def no_lists():
    """Objects of many kinds that are neither lists nor tuples."""
    return [None, True, False, 0, 3, -1, "", "tank", "readtank", {}, {0: ("tank", ())}, Exact(3), Exact(1, 2),
            small_book(), BadPart([])]


def no_words():
    """Objects of many kinds that are no words."""
    return [None, True, False, 0, 7, "", "Tank", "tAnk", "ta nk", " tank", "tank ", "tank1", "ta-nk", "ta_nk",
            "tank\n", "\ntank", "ninechars", "abcdefghi", "t\u00e4nk", "\u00df", "\u03b1", "\u02b0", ["tank"],
            ("t",), {}, {"tank": 1}, Exact(1), small_book(), BadPart("tank")]
