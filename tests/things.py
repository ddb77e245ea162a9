"""Things that several tests use."""

from surelevels.books import Book
from surelevels.errors import BadPart, Unfit
from surelevels.exacts import Exact

TANK = [("tank", [(10, 2, 1)])]


def small_book(facts=()):
    return Book(0, 10, 0, 100, TANK, facts)


def quick_book(facts):
    """A book whose level gets anywhere in a tenth of a unit of time."""
    return Book(0, 10, 0, 100, [("tank", [(10, 1000, 1000)])], facts)


def three_levels(facts=()):
    rates = [(10, 1, 1)]
    return Book(0, 10, 0, 100, [("tank", rates), ("b", rates), ("c", rates)], facts)


def unfit_book():
    """A book of three levels that no history fits."""
    return Book(0, 10, 0, 100, [("tank", [(10, 2, 1)]), ("b", [(10, 2, 1)]), ("c", [(10, 2, 1)])],
                [("read", "tank", 5, 5, 0, 1), ("read", "tank", 5, 5, 2, 3)])


def quickened(book, factor):
    """A book with all rises and falls multiplied by a factor."""
    levels = [(name, [(until, rise * Exact(1) * factor, fall * Exact(1) * factor) for until, rise, fall in rates])
              for name, rates in book.levels()]
    return Book(*book.frame(), levels, book.facts())


def check_error(test, error, held, call):
    """That a call raises an error; held is the very object that it holds under its only name, None for no name."""
    with test.assertRaises(error) as caught:
        call()
    test.assertIs(type(caught.exception), error)
    values = list(vars(caught.exception).values())
    test.assertEqual(len(values), 0 if error is Unfit else 1)
    for value in values:
        test.assertIs(value, held)


def no_numbers():
    """Objects of many kinds that are no numbers, new ones each time."""
    return [None, True, False, "", "3", "tank", "3/2", [], [3], (), (3, 2), [Exact(3)], {}, {3: 3},
            {"over": 3, "under": 2}, small_book(), BadPart(3)]


def no_lists():
    """Objects of many kinds that are neither lists nor tuples."""
    return [None, True, False, 0, 3, -1, "", "tank", "readtank", {}, {0: ("tank", ())}, Exact(3), Exact(1, 2),
            small_book(), BadPart([])]


def no_words():
    """Objects of many kinds that are no words."""
    return [None, True, False, 0, 7, "", "Tank", "tAnk", "ta nk", " tank", "tank ", "tank1", "ta-nk", "ta_nk",
            "tank\n", "\ntank", "ninechars", "abcdefghi", "t\u00e4nk", "\u00df", "\u03b1", "\u02b0", ["tank"],
            ("t",), {}, {"tank": 1}, Exact(1), small_book(), BadPart("tank")]


def no_moments(start=0, end=10):
    """Objects of many kinds that are no moments of a frame, and numbers just outside of it."""
    tiny = Exact(1, 10 ** 30)
    return no_numbers() + [start - 1, end + 1, start - tiny, end + tiny, 10 ** 60 - 1, -(10 ** 60 - 1), object()]


def no_names():
    """Objects of many kinds that are not the name of a level called tank, b or c."""
    return [None, True, False, 0, 1, "", "Tank", "tan", "tanks", "a", "tank ", ["tank"], ("tank",), {"tank": 1}, {},
            [], Exact(0), small_book(), BadPart("tank"), object()]


def as_lists(thing):
    """A thing with lists in the place of tuples at every depth."""
    if isinstance(thing, (list, tuple)):
        return [as_lists(part) for part in thing]
    return thing


def as_tuples(thing):
    """A thing with tuples in the place of lists at every depth."""
    if isinstance(thing, (list, tuple)):
        return tuple(as_tuples(part) for part in thing)
    return thing


def as_exacts(thing):
    """A thing with an Exact in the place of each integer, and new ones in the place of others."""
    if isinstance(thing, (list, tuple)):
        return type(thing)(as_exacts(part) for part in thing)
    if isinstance(thing, Exact):
        return Exact(thing.over, thing.under)
    return Exact(thing) if isinstance(thing, int) and not isinstance(thing, bool) else thing


def kinds(thing):
    """A thing with the kinds of all its parts, to compare forms as well as values."""
    if isinstance(thing, (list, tuple)):
        return (type(thing), [kinds(part) for part in thing])
    if isinstance(thing, Exact):
        return (Exact, thing.over, thing.under)
    return (type(thing), thing)


def scramble(thing):
    """Changes a thing that was passed or told at every depth, its fractions too."""
    if isinstance(thing, (list, tuple)):
        for part in thing:
            scramble(part)
    if isinstance(thing, list):
        thing.append("scrambled")
        thing.reverse()
    if isinstance(thing, Exact):
        thing.over, thing.under = -7, 19
