"""Things that several tests use."""

from surelevels.books import Book
from surelevels.errors import BadPart
from surelevels.exacts import Exact

TANK = [("tank", [(10, 2, 1)])]


def small_book(facts=()):
    return Book(0, 10, 0, 100, TANK, facts)


def no_numbers():
    """Objects of many kinds that are no numbers, new ones each time."""
    return [None, True, False, "", "3", "tank", "3/2", [], [3], (), (3, 2), [Exact(3)], {}, {3: 3},
            {"over": 3, "under": 2}, small_book(), BadPart(3)]


def no_lists():
    """Objects of many kinds that are neither lists nor tuples."""
    return [None, True, False, 0, 3, -1, "", "tank", "readtank", {}, {0: ("tank", ())}, Exact(3), Exact(1, 2),
            small_book(), BadPart([])]


def no_words():
    """Objects of many kinds that are no words."""
    return [None, True, False, 0, 7, "", "Tank", "tAnk", "ta nk", " tank", "tank ", "tank1", "ta-nk", "ta_nk",
            "tank\n", "\ntank", "ninechars", "abcdefghi", "t\u00e4nk", "\u00df", "\u03b1", "\u02b0", ["tank"],
            ("t",), {}, {"tank": 1}, Exact(1), small_book(), BadPart("tank")]


def no_moments(start=0, end=10):
    """Objects of many kinds that are no moments of a frame, and numbers just outside of it."""
    tiny = Exact(1, 10 ** 30)
    return no_numbers() + [start - 1, end + 1, start - tiny, end + tiny, 10 ** 60 - 1, -(10 ** 60 - 1), object()]


def no_names():
    """Objects of many kinds that are not the name of a level called tank, b or c."""
    return [None, True, False, 0, 1, "", "Tank", "tan", "tanks", "a", "tank ", ["tank"], ("tank",), {"tank": 1}, {},
            [], Exact(0), small_book(), BadPart("tank"), object()]


def as_lists(thing):
    """A thing with lists in the place of tuples at every depth."""
    if isinstance(thing, (list, tuple)):
        return [as_lists(part) for part in thing]
    return thing


def as_tuples(thing):
    """A thing with tuples in the place of lists at every depth."""
    if isinstance(thing, (list, tuple)):
        return tuple(as_tuples(part) for part in thing)
    return thing


def as_exacts(thing):
    """A thing with an Exact in the place of each integer, and new ones in the place of others."""
    if isinstance(thing, (list, tuple)):
        return type(thing)(as_exacts(part) for part in thing)
    if isinstance(thing, Exact):
        return Exact(thing.over, thing.under)
    return Exact(thing) if isinstance(thing, int) and not isinstance(thing, bool) else thing


def kinds(thing):
    """A thing with the kinds of all its parts, to compare forms as well as values."""
    if isinstance(thing, (list, tuple)):
        return (type(thing), [kinds(part) for part in thing])
    if isinstance(thing, Exact):
        return (Exact, thing.over, thing.under)
    return (type(thing), thing)


def scramble(thing):
    """Changes a thing that was passed or told at every depth, its fractions too."""
    if isinstance(thing, (list, tuple)):
        for part in thing:
            scramble(part)
    if isinstance(thing, list):
        thing.append("scrambled")
        thing.reverse()
    if isinstance(thing, Exact):
        thing.over, thing.under = -7, 19
