"""Promises 3, 4, 8, 9, 10 and 11: what is no frame, no level, no fact and no index, and the order of the errors."""

import unittest

from surelevels.books import Book
from surelevels.errors import BadFact, BadFrame, BadLevel, BadPart, BadPlace
from surelevels.exacts import Exact
from tests.things import TANK, no_lists, no_numbers, no_words, small_book

GOOD_LEVELS = [("a", [(10, 2, 1)]), ("b", [(5, 0, 0), (10, 1, 1)]), ("c", [(1, 1, 1), (2, 1, 1), (10, 1, 1)])]
GOOD_FACTS = [("read", "a", 0, 10, 1, 1), ("silent", "b", 0, 10, 1, 2), ("above", "a", "c", 0, 10, 1)]


def replaced(row, at, thing):
    """A row with another thing at a place."""
    return tuple(row[:at]) + (thing,) + tuple(row[at + 1:])


class Frames(unittest.TestCase):
    def check(self, *frame):
        with self.subTest(frame=frame):
            with self.assertRaises(BadFrame):
                Book(*frame, TANK)
            with self.assertRaises(BadFrame):
                Book(*frame, None, None)

    def test_no_numbers(self):
        for thing in no_numbers():
            for at in range(4):
                self.check(*replaced((0, 10, 0, 100), at, thing))

    def test_no_stretches(self):
        for frame in [(0, 0, 0, 100), (10, 0, 0, 100), (0, 10, 0, 0), (0, 10, 100, 0), (0, -1, 0, 1), (0, 10, 5, 5),
                      (Exact(1, 2), Exact(1, 2), 0, 1), (Exact(1, 2), Exact(1, 3), 0, 1), (0, 1, Exact(4, 2), 2),
                      (10 ** 59, 10 ** 59, 0, 1), (0, 1, 10 ** 59, 10 ** 59 - 1)]:
            self.check(*frame)

    def test_by_names(self):
        with self.assertRaises(BadFrame):
            Book(facts=None, levels=None, top=0, bottom=0, end=1, start=0)


class Levels(unittest.TestCase):
    def check(self, levels, index):
        for facts in ((), None, [None]):
            with self.subTest(levels=levels), self.assertRaises(BadLevel) as caught:
                Book(0, 10, 0, 100, levels, facts)
            self.assertIs(type(caught.exception.index), int)
            self.assertEqual(caught.exception.index, index)

    def check_item(self, item):
        """That an item is no level, wherever it stands and whatever stands behind it."""
        for at in range(3):
            self.check(GOOD_LEVELS[:at] + [item], at)
            self.check(tuple(GOOD_LEVELS[:at] + [item] + GOOD_LEVELS[at + 1:]), at)
            self.check(GOOD_LEVELS[:at] + [item, None, item, GOOD_LEVELS[0]], at)

    def check_rates(self, rates):
        self.check_item(("d", rates))
        self.check_item(["d", rates])

    def test_no_lists(self):
        for thing in no_lists():
            self.check(thing, 0)

    def test_empty(self):
        self.check([], 0)
        self.check((), 0)

    def test_a_fourth_one(self):
        for item in (("d", [(10, 1, 1)]), None, GOOD_LEVELS[0]):
            self.check(GOOD_LEVELS + [item], 3)
            self.check(GOOD_LEVELS + [item, item], 3)

    def test_no_pairs(self):
        for thing in no_lists() + [[], (), ["d"], ("d",), ("d", [(10, 1, 1)], 1), ("d", [(10, 1, 1)], [(10, 1, 1)]),
                                   ([(10, 1, 1)], "d"), "dd", ("d", 10, 1, 1), [["d", [(10, 1, 1)]]]]:
            self.check_item(thing)

    def test_names(self):
        for thing in no_words():
            self.check_item((thing, [(10, 1, 1)]))

    def test_names_that_an_earlier_one_has(self):
        for rates in ([(10, 2, 1)], [(10, 3, 3)], [(5, 1, 1), (10, 1, 1)]):
            self.check([GOOD_LEVELS[0], ("a", rates)], 1)
            self.check([GOOD_LEVELS[0], GOOD_LEVELS[1], ("a", rates)], 2)
            self.check([GOOD_LEVELS[0], GOOD_LEVELS[1], ["b", rates]], 2)
            self.check([GOOD_LEVELS[0], ("a", rates), ("a", rates), None], 1)

    def test_rates_that_are_no_lists(self):
        for thing in no_lists():
            self.check_rates(thing)

    def test_numbers_of_rates(self):
        self.check_rates([])
        self.check_rates(())
        self.check_rates([(1, 1, 1), (2, 1, 1), (3, 1, 1), (10, 1, 1)])
        self.check_rates([(1, 1, 1), (2, 1, 1), (10, 1, 1), (10, 1, 1)])
        self.check_rates([(2, 1, 1), (4, 1, 1), (6, 1, 1), (8, 1, 1), (10, 1, 1)])
        self.check_rates((10, 1, 1))

    def test_rates_that_are_no_triples(self):
        for thing in no_lists() + [(), (10,), (10, 1), [10, 1, 1, 1], ((10, 1, 1),), "abc"]:
            self.check_rates([thing])
            self.check_rates([thing, (10, 1, 1)])
            self.check_rates(([5, 1, 1], thing, (10, 1, 1)))
            self.check_rates(([5, 1, 1], (10, 1, 1), thing))

    def test_parts_of_rates_that_are_no_numbers(self):
        for thing in no_numbers():
            for at in range(3):
                self.check_rates([replaced((10, 1, 1), at, thing)])
                self.check_rates([replaced((5, 1, 1), at, thing), (10, 1, 1)])
                self.check_rates([(5, 1, 1), replaced((7, 1, 1), at, thing), (10, 1, 1)])
                self.check_rates([(5, 1, 1), (7, 1, 1), replaced((10, 1, 1), at, thing)])

    def test_untils(self):
        for untils in [(9,), (11,), (0,), (-1,), (0, 10), (-1, 10), (5, 5, 10), (5, 4, 10), (5, 5), (10, 10), (5, 11),
                       (5, 9), (11, 10), (10, 11), (3, 10, 10), (3, 7, Exact(99, 10)), (3, 7, Exact(101, 10)),
                       (Exact(1, 2), Exact(2, 4), 10), (Exact(1, 2), Exact(1, 3), 10), (Exact(0), 10), (20, 15, 10)]:
            self.check_rates([(until, 1, 1) for until in untils])

    def test_rates_below_nought(self):
        for wrong in (-1, Exact(-1, 2), -10 ** 59):
            self.check_rates([(10, wrong, 1)])
            self.check_rates([(10, 1, wrong)])
            self.check_rates([(5, wrong, 1), (10, 1, 1)])
            self.check_rates([(3, 1, 1), (5, 1, wrong), (10, 1, 1)])
            self.check_rates([(3, 1, 1), (5, 1, 1), (10, wrong, 1)])

    def test_untils_of_another_start(self):
        for until in (3, Exact(5, 2)):
            with self.assertRaises(BadLevel) as caught:
                Book(3, 10, 0, 100, [GOOD_LEVELS[0], ("b", [(until, 1, 1), (10, 1, 1)])])
            self.assertEqual(caught.exception.index, 1)


class Facts(unittest.TestCase):
    def check(self, facts, index):
        with self.subTest(facts=facts), self.assertRaises(BadFact) as caught:
            Book(0, 10, 0, 100, GOOD_LEVELS, facts)
        self.assertIs(type(caught.exception.index), int)
        self.assertEqual(caught.exception.index, index)

    def check_item(self, item):
        """That an item is no fact, wherever it stands and whatever stands behind it."""
        for at in range(8):
            ahead = (GOOD_FACTS * 3)[:at]
            self.check(ahead + [item], at)
            self.check(tuple(ahead + [item, None] + GOOD_FACTS * 3), at)
            with self.subTest(item=item), self.assertRaises(BadFact) as caught:
                Book(0, 10, 0, 100, GOOD_LEVELS, ahead).further([item, None])
            self.assertEqual(caught.exception.index, at)

    def test_no_lists(self):
        for thing in no_lists():
            self.check(thing, 0)

    def test_a_ninth_one(self):
        for item in (GOOD_FACTS[0], None, []):
            self.check([GOOD_FACTS[0]] * 8 + [item], 8)
            self.check([GOOD_FACTS[0]] * 8 + [item, None], 8)
        self.check([GOOD_FACTS[0]] * 20, 8)

    def test_no_facts(self):
        for thing in no_lists() + [[], (), ["read"], GOOD_FACTS[0][:5], GOOD_FACTS[1][:5], GOOD_FACTS[2][:5],
                                   GOOD_FACTS[0] + (1,), GOOD_FACTS[1] + (2,), GOOD_FACTS[2] + (3,), [GOOD_FACTS[0]],
                                   "readab", ("read", "a", 0, 1, 1), ("above", "a", "c", 0, 1)]:
            self.check_item(thing)

    def test_sorts(self):
        words = ["", "Read", "reads", "rea", "read ", "sure", "below", "level", "a", ("read",), ["silent"]]
        for thing in no_words() + no_lists() + no_numbers() + words:
            for fact in GOOD_FACTS:
                self.check_item(replaced(fact, 0, thing))
                self.check_item(list(replaced(fact, 0, thing)))

    def test_sorts_of_other_forms(self):
        self.check_item(replaced(GOOD_FACTS[0], 0, "above"))
        self.check_item(replaced(GOOD_FACTS[2], 0, "read"))
        self.check_item(replaced(GOOD_FACTS[2], 0, "silent"))

    def test_names(self):
        for thing in no_words() + ["d", "aa", "A", "read", "tank", ["a"], ("a",)]:
            self.check_item(replaced(GOOD_FACTS[0], 1, thing))
            self.check_item(replaced(GOOD_FACTS[1], 1, thing))
            self.check_item(replaced(GOOD_FACTS[2], 1, thing))
            self.check_item(replaced(GOOD_FACTS[2], 2, thing))

    def test_names_that_are_alike(self):
        for name in ("a", "b", "c"):
            self.check_item(("above", name, name, 0, 10, 1))
            self.check_item(["above", name, name, 0, 10, -1])

    def test_parts_that_are_no_numbers(self):
        for thing in no_numbers():
            for fact in GOOD_FACTS:
                for at in range(3 if fact[0] == "above" else 2, 6):
                    self.check_item(replaced(fact, at, thing))

    def test_stretches(self):
        for a, b in [(-1, 5), (5, 11), (-1, 11), (6, 5), (10, 0), (11, 11), (-1, -1), (Exact(-1, 9), 5),
                     (5, Exact(91, 9)), (Exact(1, 2), Exact(1, 3))]:
            for sort, name in (("read", "a"), ("silent", "b")):
                self.check_item((sort, name, a, b, 1, 2))
            self.check_item(("above", "a", "c", a, b, 1))

    def test_marks(self):
        for low, high in [(2, 1), (1, -1), (Exact(1, 2), Exact(1, 3)), (10 ** 59 + 1, 10 ** 59)]:
            self.check_item(("read", "a", 0, 10, low, high))
            self.check_item(("silent", "a", 0, 10, low, high))
        for low, high in [(1, 1), (0, 0), (Exact(1, 2), Exact(2, 4)), (Exact(4, 2), 2)]:
            self.check_item(("silent", "a", 0, 10, low, high))

    def test_the_first_wrong_one(self):
        self.check([GOOD_FACTS[0], ("silent", "a", 0, 10, 1, 1), None], 1)
        self.check([GOOD_FACTS[0], GOOD_FACTS[1], None, ("silent", "a", 0, 10, 1, 1)], 2)
        self.check([GOOD_FACTS[0]] * 7 + [None] * 3, 7)


class Further(unittest.TestCase):
    def check(self, book, facts, index):
        with self.subTest(facts=facts), self.assertRaises(BadFact) as caught:
            book.further(facts)
        self.assertEqual(caught.exception.index, index)

    def test_no_lists(self):
        for many in (0, 1, 3, 8):
            book = Book(0, 10, 0, 100, GOOD_LEVELS, (GOOD_FACTS * 3)[:many])
            for thing in no_lists():
                self.check(book, thing, many)

    def test_a_ninth_one(self):
        self.check(Book(0, 10, 0, 100, GOOD_LEVELS, [GOOD_FACTS[0]] * 8), [GOOD_FACTS[0]], 8)
        self.check(Book(0, 10, 0, 100, GOOD_LEVELS, [GOOD_FACTS[0]] * 8), [None], 8)
        self.check(Book(0, 10, 0, 100, GOOD_LEVELS, [GOOD_FACTS[0]] * 5), [GOOD_FACTS[0]] * 5, 8)
        self.check(Book(0, 10, 0, 100, GOOD_LEVELS, [GOOD_FACTS[0]] * 5), [GOOD_FACTS[0], None] + GOOD_FACTS, 6)


class Without(unittest.TestCase):
    def check(self, book, thing):
        with self.subTest(thing=thing), self.assertRaises(BadPlace) as caught:
            book.without(thing)
        self.assertIs(caught.exception.index, thing)

    def test_no_integers(self):
        for thing in no_numbers() + [Exact(0), Exact(1), Exact(1, 2)]:
            self.check(Book(0, 10, 0, 100, GOOD_LEVELS, GOOD_FACTS), thing)

    def test_no_indices(self):
        for many in (0, 1, 3, 8):
            book = Book(0, 10, 0, 100, GOOD_LEVELS, (GOOD_FACTS * 3)[:many])
            for thing in (-1, -many, -many - 1, many, many + 1, 10 ** 59, -10 ** 59):
                if not 0 <= thing < many:
                    self.check(book, thing)


class OrderOfErrors(unittest.TestCase):
    def test_frame_ahead_of_levels_ahead_of_facts(self):
        with self.assertRaises(BadFrame):
            Book(0, True, 0, 100, [], None)
        with self.assertRaises(BadFrame):
            Book(0, 10, 0, None, GOOD_LEVELS, [None])
        with self.assertRaises(BadLevel) as caught:
            Book(0, 10, 0, 100, GOOD_LEVELS[:2] + [None], None)
        self.assertEqual(caught.exception.index, 2)
        with self.assertRaises(BadFact) as caught:
            Book(0, 10, 0, 100, GOOD_LEVELS, GOOD_FACTS[:2] + [None])
        self.assertEqual(caught.exception.index, 2)

    def test_things_of_the_package(self):
        for thing in (small_book(), Exact(1), BadPart(1)):
            with self.assertRaises(BadFrame):
                Book(0, 10, 0, small_book(), thing, thing)
            with self.assertRaises(BadLevel):
                Book(0, 10, 0, 100, thing, thing)
            with self.assertRaises(BadFact):
                Book(0, 10, 0, 100, TANK, thing)


if __name__ == "__main__":
    unittest.main()
