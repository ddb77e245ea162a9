"""Promises 28 and 29: facts that follow from a book, and facts of a book that its other facts tell."""

import random
import unittest
from itertools import product

from surelevels.books import Book
from surelevels.errors import BadFact
from surelevels.exacts import Exact
from surelevels.follow import follows, needless
from surelevels.lines import Line, fits
from surelevels.papers import highest, is_fit, lowest
from tests.oracle import Oracle, exact
from tests.randoms import number, random_book, stretch
from tests.things import (as_exacts, as_lists, as_tuples, check_error, no_lists, no_names, no_numbers, quick_book,
                          scramble, small_book, three_levels, unfit_book)

HALF = Exact(1, 2)
TINY = Exact(1, 10 ** 30)
ENDS = [("read", "tank", 0, 0, 50, 60), ("read", "tank", 10, 10, 50, 60)]
VALLEY = Exact(130, 3)
PEAK = Exact(200, 3)


class Follow(unittest.TestCase):
    def check(self, book, fact, wanted=True):
        self.assertIs(follows(book, fact), wanted, fact)

    def check_just(self, book, kind, name, a, b, low, high):
        """That a read fact follows and no tighter one, or that a silent fact follows and no wider one."""
        self.check(book, (kind, name, a, b, low, high))
        tiny = TINY if kind == "read" else -TINY
        self.check(book, (kind, name, a, b, low + tiny, high), False)
        self.check(book, (kind, name, a, b, low, high - tiny), False)
        self.check(book, (kind, name, a, b, low - tiny, high + tiny))


class Reads(Follow):
    def test_lowest_and_highest_heights(self):
        book = small_book([("read", "tank", 5, 5, 50, 60)])
        for a, b, low, high in ((5, 5, 50, 60), (0, 0, 40, 65), (10, 10, 45, 70), (0, 10, 40, 70), (3, 6, 46, 62),
                                (Exact(16, 3), Exact(16, 3), Exact(149, 3), Exact(182, 3)), (1, 5, 42, 64),
                                (5, 9, 46, 68), (6, 9, 46, 68), (1, Exact(9, 2), 42, 64)):
            self.check_just(book, "read", "tank", a, b, low, high)
        self.check_just(small_book(), "read", "tank", 0, 10, 0, 100)
        self.check_just(small_book(), "read", "tank", 7, 7, 0, 100)
        self.check(small_book(), ("read", "tank", 0, 10, -10 ** 59, 10 ** 59))
        self.check(small_book(), ("read", "tank", 0, 10, 10, 10 ** 59), False)
        self.check(small_book(), ("read", "tank", 0, 10, 50, 50), False)

    def test_valleys_and_peaks_between_ends(self):
        """Down from 50 and up to 50 again, up from 60 and down to 60 again; no end of the book is there."""
        book = small_book(ENDS)
        self.check_just(book, "read", "tank", 0, 10, VALLEY, PEAK)
        self.check_just(book, "read", "tank", 3, 7, VALLEY, PEAK)
        self.check_just(book, "read", "tank", 3, 6, 44, PEAK)
        self.check_just(book, "read", "tank", 4, 7, VALLEY, 66)
        self.check_just(book, "read", "tank", 4, 6, 44, 66)
        self.check_just(book, "read", "tank", Exact(20, 3), Exact(20, 3), VALLEY, Exact(190, 3))
        self.check_just(book, "read", "tank", Exact(10, 3), Exact(10, 3), Exact(140, 3), PEAK)
        self.check_just(book, "read", "tank", Exact(20, 3), 10, VALLEY, Exact(190, 3))
        self.check_just(book, "read", "tank", 0, 1, 49, 62)

    def test_one_height(self):
        book = small_book([("read", "tank", 0, 0, 50, 50), ("read", "tank", 5, 5, 60, 60)])
        for marks, wanted in (((54, 54), True), ((54 - TINY, 54), True), ((54, 54 + TINY), True),
                              ((54 + TINY, 55), False), ((53, 54 - TINY), False)):
            self.check(book, ("read", "tank", 2, 2, *marks), wanted)
        self.check_just(book, "read", "tank", 0, 5, 50, 60)
        self.check(book, ("read", "tank", 0, 0, 50, 50))
        self.check(book, ("read", "tank", 0, TINY, 50, 50), False)
        self.check(book, ("read", "tank", 3, 3, Exact(56), Exact(56)))

    def test_third_level(self):
        """What other levels tell, at a moment and throughout."""
        facts = [("above", "tank", "b", 2, 8, 10), ("read", "tank", 5, 5, 30, 40), ("read", "b", 6, 6, 10, 70),
                 ("above", "b", "c", 8, 9, -5)]
        self.check_just(three_levels(facts), "read", "b", 5, 5, 40, 71)
        self.check_just(three_levels(facts), "read", "b", 3, 7, 38, 73)
        self.check_just(three_levels(facts), "read", "c", 8, 9, 31, 100)
        self.check_just(three_levels(facts), "read", "tank", 2, 8, 27, 43)
        self.check_just(three_levels(facts), "read", "c", 0, 10, 24, 100)

    def test_alarms(self):
        facts = [("silent", "tank", 2, 4, 40, 60), ("read", "tank", 3, 3, 41, 80), ("silent", "tank", 5, 8, 58, 70)]
        book = small_book(facts)
        self.check_just(book, "read", "tank", 2, 4, 64, 82)
        self.check_just(book, "read", "tank", 5, 8, 70, 90)
        self.check_just(book, "read", "tank", 4, 5, 68, 84)
        self.check_just(book, "read", "tank", 3, 3, 66, 80)


class Silents(Follow):
    def test_beyond_the_lines(self):
        book = small_book(ENDS)
        self.check(book, ("silent", "tank", 0, 10, 40, VALLEY))
        self.check(book, ("silent", "tank", 0, 10, 40, VALLEY + TINY), False)
        self.check(book, ("silent", "tank", 0, 10, PEAK, 80))
        self.check(book, ("silent", "tank", 0, 10, PEAK - TINY, 80), False)
        self.check(book, ("silent", "tank", 3, 6, 40, 44))
        self.check(book, ("silent", "tank", 3, 6, 40, 44 + TINY), False)
        self.check(book, ("silent", "tank", 4, 7, 66, 80))
        self.check(book, ("silent", "tank", 4, 7, 66 - TINY, 80), False)
        self.check(book, ("silent", "tank", 0, 0, 0, 50))
        self.check(book, ("silent", "tank", 0, 0, 60, 61))
        self.check(book, ("silent", "tank", 0, 0, 50, 60), False)
        self.check(book, ("silent", "tank", 0, 0, 0, 100), False)
        self.check(book, ("silent", "tank", 0, 10, 53, 53 + TINY), False)
        self.check(book, ("silent", "tank", 0, 10, -HALF, 0))
        self.check(book, ("silent", "tank", 0, 10, 100, 10 ** 59))
        self.check(small_book(), ("silent", "tank", 0, 10, -5, 0))
        self.check(small_book(), ("silent", "tank", 0, 10, 100, 105))
        self.check(small_book(), ("silent", "tank", 4, 4, -5, TINY), False)
        self.check(small_book(), ("silent", "tank", 4, 4, 100 - TINY, 105), False)
        self.check(small_book(), ("silent", "tank", 4, 4, -5, 105), False)

    def test_one_height(self):
        """A level that is known is on both sides of nothing, and at marks it is not between them."""
        book = small_book([("read", "tank", 0, 10, 50, 50)])
        for low, high, wanted in ((50, 51, True), (49, 50, True), (49, 51, False), (50 - TINY, 50 + TINY, False)):
            self.check(book, ("silent", "tank", 0, 10, low, high), wanted)
            self.check(book, ("silent", "tank", 3, 3, low, high), wanted)

    def test_passing_from_side_to_side(self):
        """Surely below at first and surely above in the end, so it went through between."""
        book = small_book([("read", "tank", 2, 2, 50, 50), ("read", "tank", 8, 8, 60, 60)])
        self.check(book, ("silent", "tank", 2, 8, 52, 58), False)
        self.check(book, ("silent", "tank", 2, 2, 52, 58))
        self.check(book, ("silent", "tank", 8, 8, 52, 58))
        self.check(book, ("silent", "tank", 2, 3, 52, 58))
        self.check(book, ("silent", "tank", 2, 3, 52 - TINY, 58), False)
        self.check(book, ("silent", "tank", 7, 8, 52, 58))
        self.check(book, ("silent", "tank", 7, 8, 52, 58 + TINY), False)

    def test_within_an_alarm(self):
        book = quick_book([("silent", "tank", 2, 8, 40, 50)])
        self.check_just(book, "silent", "tank", 2, 8, 40, 50)
        self.check_just(book, "silent", "tank", 4, 4, 40, 50)
        self.check(book, ("silent", "tank", 3, 6, 42, 48))
        self.check(book, ("silent", "tank", 2, 8 + TINY, 40, 50), False)
        self.check(book, ("silent", "tank", 2 - TINY, 8, 40, 50), False)
        self.check(book, ("silent", "tank", 1, 9, 42, 48), False)
        # Before 2 the level can have gone from 40 to 45 in a two-hundredth of a unit, and not sooner.
        narrow = ("silent", "tank", 2 - Exact(1, 250), 8 + Exact(1, 250), 44, 46)
        self.check_just(book, *narrow)

    def test_two_alarms_that_overlap(self):
        book = quick_book([("silent", "tank", 2, 4, 40, 50), ("silent", "tank", 4, 6, 45, 60)])
        self.check_just(book, "silent", "tank", 4, 4, 40, 60)
        self.check_just(book, "silent", "tank", 2, 4, 40, 50)
        self.check(book, ("silent", "tank", 2, 6, 45, 50), True)
        self.check_just(book, "silent", "tank", 2, 6, 45, 50)
        # One of them is below and the other one above: not at 4, where both are.
        apart = quick_book([("silent", "tank", 2, 3, 40, 50), ("silent", "tank", 4, 6, 40, 50)])
        self.check(apart, ("silent", "tank", 2, 6, 40, 50), False)
        self.check(apart, ("silent", "tank", 2, 6, 45, 46), False)
        slow = Book(0, 10, 0, 100, [("tank", [(10, 4, 4)])], apart.facts())
        self.check_just(slow, "silent", "tank", 2, 6, 42, 48)

    def test_four_alarms(self):
        facts = [("silent", "tank", 2, 8, 20, 30), ("silent", "tank", 2, 8, 25, 40), ("silent", "tank", 2, 8, 40, 50),
                 ("silent", "tank", 2, 8, 60, 70)]
        book = quick_book(facts)
        self.check_just(book, "silent", "tank", 2, 8, 20, 40)
        self.check_just(book, "silent", "tank", 5, 6, 40, 50)
        self.check_just(book, "silent", "tank", 3, 3, 60, 70)
        self.check(book, ("silent", "tank", 5, 5, 20, 50), False)
        self.check(book, ("silent", "tank", 5, 5, 50, 60), False)
        full = quick_book(facts + [("read", "tank", 5, 5, 10, 95), ("read", "tank", 2, 8, 21, 99),
                                   ("read", "tank", 3, 4, 41, 90), ("read", "tank", 0, 10, 5, 99)])
        self.assertEqual(len(full), 8)
        self.check_just(full, "silent", "tank", 2, 8, 60, 70)
        self.check(full, ("silent", "tank", 2, 8, 0, 50))
        self.check(full, ("silent", "tank", 2, 8, 0, 50 + TINY), False)
        self.check(full, ("silent", "tank", 3, 3, 90, 99))
        self.check(full, ("silent", "tank", 2, 8, 90, 99), False)
        self.check_just(full, "read", "tank", 3, 3, 50, 90)

    def test_other_levels_and_alarms(self):
        """The level of the alarm and another one are at one height, and a third one hangs below."""
        facts = [("silent", "tank", 4, 6, 40, 50), ("above", "tank", "b", 4, 6, 0), ("above", "b", "tank", 4, 6, 0)]
        book = three_levels(facts)
        self.check_just(book, "silent", "b", 4, 6, 40, 50)
        self.check(book, ("silent", "c", 4, 6, 40, 50), False)
        self.check(book.without(2), ("silent", "b", 4, 6, 40, 50), False)
        self.check_just(book, "silent", "b", 3, 6, 41, 49)
        self.check(book.further([("read", "c", 5, 5, 40, 40), ("above", "c", "b", 5, 5, HALF)]),
                   ("silent", "b", 4, 6, 20, 50))


class Others(Follow):
    def test_books_that_no_history_fits(self):
        ring = three_levels([("above", "b", "c", 5, 5, 1), ("above", "c", "b", 5, 5, 0)])
        silent = three_levels([("silent", "tank", 5, 5, 40, 50), ("read", "tank", 5, 5, 41, 49)])
        full = three_levels([("silent", "c", 5, 5, 40, 50)] * 4 + [("read", "c", 5, 5, 41, 49)] * 4)
        for book in (unfit_book(), ring, silent, full):
            for name in book.names():
                for kind in ("read", "silent"):
                    self.check(book, (kind, name, 0, 10, -5, -4))
                    self.check(book, (kind, name, 5, 5, 50, 51))
            check_error(self, BadFact, 0, lambda: follows(book, ("above", "tank", "b", 5, 5, 0)))

    def test_eight_facts(self):
        facts = [("read", "tank", 0, 10, 0, 90), ("read", "b", 5, 5, 10, 20), ("above", "b", "c", 5, 5, 5),
                 ("above", "c", "tank", 5, 5, 5)] * 2
        book = three_levels(facts)
        self.check_just(book, "read", "tank", 5, 5, 20, 90)
        self.check_just(book, "read", "b", 5, 6, 9, 21)
        self.check(book, ("silent", "tank", 4, 6, 0, 19))
        self.check(book, ("silent", "tank", 4, 6, 0, 19 + TINY), False)

    def test_wrong_facts(self):
        good = [("read", "tank", 2, 8, 50, 60), ("silent", "tank", 2, 8, 50, 60)]
        wrong = no_lists() + [(), [], "readabc", ("read",), object()]
        for fact in good:
            wrong += [fact[:5], fact + (70,), (fact,), [*fact, None], ("above", *fact[1:]), fact[1:]]
            wrong += [(kind, *fact[1:]) for kind in (None, "", "Read", "reads", "silent ", 0, ["read"], Exact(1))]
            wrong += [(fact[0], name, *fact[2:]) for name in no_names() + ["b", "c", "deep"]]
            for at, thing in product(range(2, 6), no_numbers()):
                wrong.append((*fact[:at], thing, *fact[at + 1:]))
            wrong += [(*fact[:2], a, b, 50, 60) for a, b in ((-1, 5), (5, 11), (-TINY, 0), (10, 10 + TINY), (5, 4),
                                                             (5, 5 - TINY), (11, 12), (-2, -1))]
            wrong += [(*fact[:4], 60, 50), (*fact[:4], 50, 50 - TINY)]
        wrong.append(("silent", "tank", 2, 8, 50, 50))
        wrong += [("above", "tank", "b", 2, 8, 5), ("above", "tank", "tank", 2, 8, 5)]
        for book in (small_book(), small_book(ENDS), small_book([("read", "tank", 5, 5, 101, 102)])):
            for thing in wrong:
                for form in (thing, as_lists(thing)):
                    check_error(self, BadFact, 0, lambda: follows(book, form))
        for fact in (("above", "tank", "b", 2, 8, 5), ("above", "b", "c", 0, 10, -500), ["above", "c", "b", 0, 0, 0]):
            for book in (three_levels(), unfit_book()):
                check_error(self, BadFact, 0, lambda: follows(book, fact))

    def test_forms(self):
        book = small_book(ENDS)
        for fact, wanted in ((("read", "tank", 0, 10, VALLEY, PEAK), True), (("read", "tank", 0, 10, 44, PEAK), False),
                             (("silent", "tank", 0, 10, 40, VALLEY), True), (("silent", "tank", 0, 1, 55, 70), False)):
            for form in (fact, as_lists(fact), as_tuples(fact), as_exacts(fact), as_exacts(as_lists(fact))):
                self.assertIs(follows(book, form), wanted)
                self.assertIs(follows(fact=form, book=book), wanted)
            passed = as_exacts(as_lists(fact))
            follows(book, passed)
            self.assertEqual(passed, list(fact))
            scramble(passed)
            self.assertIs(follows(book, fact), wanted)
        self.assertEqual(book, small_book(ENDS))


class Needless(unittest.TestCase):
    def check(self, book, wanted):
        for _ in range(2):
            found = needless(book)
            self.assertIs(type(found), list)
            self.assertTrue(all(type(index) is int for index in found))
            self.assertEqual(found, wanted)
            scramble(found)
        self.assertEqual(needless(book=book), wanted)
        # Facts turned about stand at other places, and so do those that are needless.
        turned = book.without(0).further(book.facts()[:1]) if len(book) else book
        self.assertEqual(needless(turned), sorted((index - 1) % len(book) for index in wanted))

    def test_none(self):
        self.check(small_book(), [])
        self.check(three_levels(), [])
        self.check(small_book(ENDS), [])
        self.check(small_book([("silent", "tank", 2, 8, 40, 50)]), [])
        self.check(quick_book([("silent", "tank", 2, 8, 40, 50), ("silent", "tank", 2, 8, 45, 55)]), [])

    def test_twice(self):
        for fact in (ENDS[0], ("silent", "tank", 2, 8, 40, 50)):
            self.check(small_book([fact, fact]), [0, 1])
            self.check(small_book([fact, ("read", "tank", 3, 3, 30, 55), fact]), [0, 2])
            self.check(small_book([fact] * 4), [0, 1, 2, 3])

    def test_told_by_others(self):
        facts = [("read", "tank", 0, 0, 50, 50), ("read", "tank", 5, 5, 60, 60), ("read", "tank", 2, 2, 54, 54),
                 ("read", "tank", 1, 4, 51, 59), ("silent", "tank", 3, 3, 56, 60), ("silent", "tank", 0, 5, 40, 50)]
        self.check(small_book(facts), [2, 3, 4, 5])
        # The highest fact at 6 can be told by what is at 5, and what is at 5 not by it.
        self.check(small_book([("read", "tank", 5, 5, 50, 60), ("read", "tank", 6, 6, 49, 62)]), [1])
        self.check(small_book([("read", "tank", 5, 5, 50, 60), ("read", "tank", 6, 6, 49, 62 - TINY)]), [])

    def test_wider_ones(self):
        self.check(quick_book([("read", "tank", 2, 8, 40, 60), ("read", "tank", 3, 7, 40, 60),
                               ("read", "tank", 2, 8, 39, 61), ("read", "tank", 1, 8, 40, 60)]), [0, 1, 2])
        self.check(quick_book([("silent", "tank", 2, 8, 40, 60), ("silent", "tank", 3, 7, 40, 60),
                               ("silent", "tank", 2, 8, 41, 59), ("silent", "tank", 2, 9, 42, 60)]), [1, 2])
        self.check(quick_book([("read", "tank", 2, 8, 0, 100), ("silent", "tank", 0, 10, -5, 0)]), [0, 1])
        # A reading that decides an alarm makes it needless, and the other way about.
        self.check(quick_book([("read", "tank", 2, 8, 50, 99), ("silent", "tank", 2, 8, 40, 50)]), [1])
        self.check(quick_book([("read", "tank", 2, 8, 45, 99), ("silent", "tank", 2, 8, 40, 50)]), [])
        self.check(quick_book([("read", "tank", 2, 8, 45, 99), ("silent", "tank", 2, 8, 40, 50),
                               ("read", "tank", 2, 8, 50, 100)]), [1, 2])

    def test_above_facts(self):
        """Above facts are not told of, however needless they are; but what they tell counts."""
        above = ("above", "tank", "b", 5, 5, 10)
        self.check(three_levels([above, above]), [])
        self.check(three_levels([above, ("above", "tank", "c", 5, 5, -101), above]), [])
        facts = [above, ("read", "tank", 5, 5, 30, 40), ("read", "b", 5, 5, 40, 100), ("silent", "b", 5, 5, 20, 30)]
        self.check(three_levels(facts), [2, 3])
        self.check(three_levels(facts[1:]), [2])

    def test_books_that_no_history_fits(self):
        one, other = ("read", "tank", 5, 5, 50, 60), ("read", "tank", 5, 5, 61, 70)
        self.check(small_book([one, other]), [])
        self.check(small_book([one, other, one]), [0, 2])
        self.check(small_book([one, other, ("silent", "tank", 2, 3, 90, 95)]), [2])
        self.check(small_book([one, other, one, other]), [0, 1, 2, 3])
        self.check(small_book([("read", "tank", 5, 5, 101, 102)]), [])
        self.check(small_book([("read", "tank", 5, 5, 101, 102), ("read", "tank", 5, 5, -2, -1)]), [0, 1])
        ring = [("above", "b", "c", 5, 5, 1), ("above", "c", "b", 5, 5, 0)]
        self.check(three_levels(ring), [])
        self.check(three_levels([ring[0], ("read", "c", 1, 2, 50, 60), ring[1], ("silent", "c", 3, 3, 1, 2)]), [1, 3])

    def test_eight_facts(self):
        facts = [("silent", "tank", 2, 8, 40, 50), ("silent", "tank", 3, 6, 41, 50), ("silent", "tank", 4, 4, 60, 70),
                 ("silent", "tank", 5, 9, 65, 75), ("read", "tank", 4, 4, 45, 90), ("read", "tank", 4, 4, 45, 85),
                 ("read", "tank", 2, 8, 50, 100), ("read", "tank", 0, 10, 0, 100)]
        self.check(quick_book(facts), [0, 1, 4, 6, 7])
        self.check(quick_book(facts[:6] + facts[7:]), [1, 4, 6])
        self.check(quick_book(facts[:6] + facts[7:] * 2), [1, 4, 6, 7])


class Randoms(unittest.TestCase):
    def follows_otherwise(self, book, fact):
        """Whether a fact fits the lowest and the highest line for each way to be below or above the alarms."""
        kind, name, a, b, low, high = fact
        sides = [[(*each[:4], -99, each[4]), (*each[:4], each[5], 999)] for each in book if each[0] == "silent"]
        others = [each for each in book if each[0] != "silent"]
        for choice in product(*sides):
            case = self.with_facts(book, others + [("read", *each[1:]) for each in choice])
            lines = [lowest(case), highest(case)] if is_fit(case) else []
            kept = [(low, high)] if kind == "read" else [(-999, low), (high, 999)]
            if not any(all(fits(self.with_facts(book, [("read", name, a, b, *marks)]), each) for each in lines)
                       for marks in kept):
                return False
        return True

    def with_facts(self, book, facts):
        return Book(*book.frame(), book.levels(), facts)

    def test_random_facts(self):
        source = random.Random(28)
        seen = {(kind, wanted): 0 for kind in ("read", "silent") for wanted in (True, False)}
        while min(seen.values()) < 25:
            book = random_book(source, silents=3, facts=6)
            oracle = Oracle(book)
            for fact in self.asked(book, source):
                wanted = self.follows_otherwise(book, fact)
                self.assertIs(follows(book, fact), wanted, (book.text(), fact))
                if oracle.fits():
                    seen[fact[0], wanted] += 1
                    for _ in range(3 if wanted else 0):
                        history = oracle.history(source)
                        lines = [Line([(exact(moment), exact(height)) for moment, height in history[name]])
                                 for name in book.names()]
                        self.assertIs(fits(self.with_facts(book, [fact]), lines), True)

    def asked(self, book, source):
        """Facts with a mark at the lowest or the highest height of a level in a stretch, or a little beside it."""
        name = source.choice(book.names())
        a, b = stretch(source, book.frame()[1])
        low = number(source, -1, 11)
        high = low + number(source, 0, 6) + HALF
        if is_fit(book):
            at = book.names().index(name)
            spots = lowest(book)[at].points() + highest(book)[at].points()
            inside = [height for moment, height in spots if a <= moment <= b]
            edge = source.choice(inside + [lowest(book)[at](a), highest(book)[at](b)])
            edge += source.choice((0, 0, TINY, -TINY))
            low, high = source.choice(((edge, edge + high - low), (edge - high + low, edge), (-99, edge), (edge, 99)))
        return [(kind, name, a, b, low, high) for kind in ("read", "silent")]

    def test_random_needless(self):
        """Without one of them the book has the same histories: the lowest and the highest one in each case."""
        source = random.Random(29)
        seen = {True: 0, False: 0}
        for count in range(60):
            book = random_book(source, silents=3, facts=7)
            found = needless(book)
            for index, fact in enumerate(book.facts()):
                if fact[0] != "above":
                    wanted = self.follows_otherwise(book.without(index), fact)
                    self.assertIs(index in found, wanted)
                    seen[wanted] += 1
            self.assertFalse([index for index in found if book.facts()[index][0] == "above"])
            self.assertEqual(found, sorted(found))
        self.assertGreater(min(seen.values()), 40)


if __name__ == "__main__":
    unittest.main()
