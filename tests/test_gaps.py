"""Promises 26 and 27, and 20 for them: the greatest gap between two levels, and levels that surely stood equal."""

import random
import unittest

from surelevels.asks import differences
from surelevels.books import Book
from surelevels.errors import BadMoment, Unfit, UnknownLevel
from surelevels.exacts import Exact
from surelevels.gaps import greatest_gap, surely_equal
from surelevels.lines import Line, fits
from surelevels.papers import is_fit, lowest
from tests.oracle import Oracle, exact, fraction
from tests.randoms import random_book, stretch
from tests.things import (as_exacts, as_lists, check_error, kinds, no_moments, no_names, scramble, three_levels,
                          unfit_book)

HALF = Exact(1, 2)
TINY = Exact(1, 10 ** 30)
RATES = [(10, 2, 1)]
READ_TANK = ("read", "tank", 5, 5, 40, 45)
READ_B = ("read", "b", 6, 6, 70, 80)


def two_levels(facts=(), rates=(10, 2, 1)):
    return Book(0, 10, 0, 100, [("a", [rates]), ("b", [rates])], facts)


class Gaps(unittest.TestCase):
    def check(self, book, one, other, a, b, gap, points=None):
        """The gap, and for each level the points of its line in the lowest history with this gap."""
        found = greatest_gap(book, one, other, a, b)
        self.assertIs(type(found), tuple)
        self.assertEqual(len(found), 2)
        self.assertEqual(kinds(found[0]), kinds(gap))
        self.assertIs(type(found[1]), list)
        self.assertTrue(all(type(line) is Line for line in found[1]))
        if points is not None:
            self.assertEqual(kinds([line.points() for line in found[1]]), kinds(points))
        self.check_greatest(book, ("above", one, other, a, b), *found)

    def check_greatest(self, book, words, gap, history):
        """That a history is the lowest one of the book with a gap, and that there is none with a little more."""
        self.assertIs(fits(book, history), True)
        oracle = Oracle(book, further=[(*words, gap)])
        for name, line in zip(book.names(), history):
            for moment in oracle.moments:
                self.assertEqual(fraction(line(exact(moment))), oracle.lowest(name, moment))
        self.assertIs(Oracle(book, further=[(*words, gap + TINY)]).fits(), False)
        if len(book) < 8:
            self.assertEqual(lowest(book.further([(*words, gap)])), history)
            self.assertIs(is_fit(book.further([(*words, gap + TINY)])), False)
        one, other, a, b = words[1:]
        if a == b:
            self.assertEqual(differences(book, one, other, a)[-1][1], gap)


class Greatest(Gaps):
    def test_top_and_bottom(self):
        self.check(three_levels(), "tank", "b", 0, 10, 100, [[(0, 0), (10, 0)], [(0, 100), (10, 100)],
                                                              [(0, 0), (10, 0)]])
        self.check(three_levels(), "c", "tank", 3, 3, 100, [[(0, 97), (3, 100), (10, 93)], [(0, 0), (10, 0)],
                                                             [(0, 0), (10, 0)]])
        book = Book(0, 10, Exact(-7, 2), Exact(1, 3), [("a", RATES), ("b", RATES)])
        self.check(book, "a", "b", 0, 10, Exact(23, 6))
        self.check(three_levels([("read", "tank", 4, 4, 30, 100)]), "tank", "b", 0, 10, 70)
        self.check(three_levels([("read", "b", 4, 4, 0, 30)]), "tank", "b", 4, 4, 30)
        self.check(three_levels([("read", "b", 4, 4, 0, 30)]), "tank", "b", 0, 10, 30)
        self.check(three_levels([("read", "b", 4, 4, 0, 30)]), "tank", "b", 6, 10, 32)

    def test_readings(self):
        book = three_levels([READ_TANK, READ_B])
        points = [[(0, 35), (5, 40), (10, 35)], [(0, 76), (5, 81), (10, 76)], [(0, 0), (10, 0)]]
        self.check(book, "tank", "b", 5, 5, 41, points)
        self.check(book, "tank", "b", 5, 6, 41, points)
        # Both may go apart as soon as they have been read.
        self.check(book, "tank", "b", 8, 8, 45)
        self.check(book, "tank", "b", 0, 10, 41)
        self.check(book, "tank", "b", 7, 8, 43)
        self.check(book, "tank", "b", 0, 0, 51)
        self.check(book, "b", "tank", 5, 5, -24)
        self.check(book, "b", "tank", 5, 8, -24)
        self.check(book, "b", "tank", 0, 10, -24)
        self.check(book, "b", "tank", 8, 8, -20)

    def test_below_and_at_nought(self):
        facts = [("read", "tank", 5, 5, 60, 70), ("read", "b", 5, 5, 40, 50)]
        self.check(three_levels(facts), "tank", "b", 5, 5, -10)
        self.check(three_levels(facts), "tank", "b", 5, 10, -10)
        self.check(three_levels(facts), "tank", "b", 7, 10, -6)
        facts[1] = ("read", "b", 5, 5, 40, 60)
        self.check(three_levels(facts), "tank", "b", 5, 5, 0, [[(0, 55), (5, 60), (10, 55)],
                                                               [(0, 55), (5, 60), (10, 55)], [(0, 0), (10, 0)]])
        facts[1] = ("read", "b", 5, 5, 40, 60 - Exact(1, 3))
        self.check(three_levels(facts), "tank", "b", 4, 5, Exact(-1, 3))

    def test_rates(self):
        """The one can be left behind only so fast: whole, broken, from start and to end."""
        facts = [("read", "a", 0, 0, 50, 50), ("read", "b", 0, 0, 50, 50), ("read", "a", 10, 10, 50, 50)]
        book = two_levels(facts)
        self.check(book, "a", "b", 0, 0, 0)
        self.check(book, "a", "b", 0, 10, 0)
        self.check(book, "a", "b", 2, 8, 6)
        self.check(book, "a", "b", 2, 2, 6)
        self.check(book, "a", "b", Exact(1, 3), 1, 1)
        self.check(book, "a", "b", Exact(1, 7), 10, Exact(3, 7))
        self.check(book, "a", "b", 10, 10, 20)
        self.check(book, "a", "b", 7, 10, 20)
        self.check(book, "b", "a", 2, 8, 6)
        self.check(book, "b", "a", 10, 10, 10)
        self.check(book, "b", "a", 9, 10, 10)

    def test_stages_of_rates(self):
        book = Book(0, 10, 0, 100, [("a", [(4, 0, 0), (10, 1, 1)]), ("b", [(3, 1, 2), (6, 0, 0), (10, 3, 3)])],
                    [("read", "a", 0, 0, 50, 50), ("read", "b", 0, 0, 50, 50)])
        for moment, gap in ((0, 0), (1, 1), (3, 3), (4, 3), (5, 4), (6, 5), (7, 9), (Exact(13, 2), 7), (10, 21)):
            self.check(book, "a", "b", moment, moment, gap)
            self.check(book, "a", "b", moment, 10, gap)
            self.check(book, "a", "b", 0, moment, 0)

    def test_alarms(self):
        facts = [("silent", "b", 4, 6, 60, 80), ("read", "b", 4, 4, 55, 70), ("read", "tank", 5, 5, 50, 52)]
        self.check(three_levels(facts), "tank", "b", 5, 5, 10)
        self.check(three_levels(facts[1:]), "tank", "b", 5, 5, 21)
        self.check(three_levels(facts), "tank", "b", 6, 6, 11)
        self.check(three_levels(facts), "tank", "b", 7, 7, 13)
        self.check(three_levels(facts), "tank", "b", 5, 7, 10)
        facts[1] = ("read", "b", 4, 4, 55, 90)
        self.check(three_levels(facts), "tank", "b", 5, 5, 41)
        # The one must be above the other one's alarm, so it is at least as high as its mark.
        self.check(three_levels([("silent", "tank", 2, 8, 30, 60), ("read", "tank", 5, 5, 31, 99),
                                 ("read", "b", 6, 6, 0, 90)]), "tank", "b", 2, 8, 30)

    def test_alarms_that_are_raised_for_the_gap(self):
        """With a gap above 10 the other level is above the low mark, so it is not below the high one."""
        facts = [("read", "tank", 5, 5, 40, 40), ("silent", "b", 4, 6, 50, 70), ("silent", "b", 6, 8, 60, 80),
                 ("read", "b", 8, 8, 0, 75)]
        book = three_levels(facts)
        self.check(book, "tank", "b", 5, 5, 10)
        facts[3] = ("read", "b", 8, 8, 0, 80)
        self.check(three_levels(facts), "tank", "b", 5, 5, 43)
        facts[3] = ("read", "b", 8, 8, 0, 79)
        self.check(three_levels(facts[:2] + facts[3:]), "tank", "b", 5, 5, 42)

    def test_third_level(self):
        self.check(three_levels([("above", "b", "c", 5, 5, 0), ("read", "c", 5, 5, 50, 60),
                                 ("read", "tank", 5, 5, 40, 50)]), "tank", "b", 5, 5, 20)
        facts = [("above", "b", "c", 2, 2, 3), ("above", "c", "tank", 4, 4, -10)]
        for a, b in ((2, 2), (3, 3), (4, 4), (2, 4), (Exact(7, 3), 3)):
            self.check(three_levels(facts), "tank", "b", a, b, 11)
        self.check(three_levels(facts), "tank", "b", 1, 4, 11)
        self.check(three_levels(facts), "tank", "b", 1, 1, 13)
        self.check(three_levels(facts), "tank", "b", 6, 10, 15)
        self.check(three_levels(facts), "tank", "c", 4, 4, 10)
        # As high as the third one is just now.
        facts = [("above", "tank", "c", 5, 5, 4), ("above", "c", "tank", 5, 5, -4),
                 ("above", "b", "c", 5, 5, -7), ("above", "c", "b", 5, 5, 7)]
        self.check(three_levels(facts), "tank", "b", 5, 5, 11)
        self.check(three_levels(facts), "b", "tank", 5, 5, -11)

    def test_chains_with_the_gap_twice(self):
        """Tank is 40, so b is 40 and the gap; c keeps this, and tank is up to it later, and b by the gap above it."""
        quick = [(10, 1000, 1000)]
        facts = [("read", "tank", 1, 1, 40, 100), ("above", "b", "c", 1, 1, 0), ("above", "c", "tank", 3, 3, 0),
                 ("read", "b", 3, 3, 0, 61)]
        book = Book(0, 10, 0, 100, [("tank", quick), ("b", quick), ("c", [(10, 0, 0)])], facts)
        half = Exact(101, 2)
        self.check(book, "tank", "b", 1, 3, Exact(21, 2))
        lines = greatest_gap(book, "tank", "b", 1, 3)[1]
        self.assertEqual([line(moment) for line in lines for moment in (1, 3)], [40, half, half, 61, half, half])
        self.check(book, "tank", "b", 1, 1, 60)
        self.check(book, "tank", "b", 3, 3, 61)
        self.check(book, "tank", "b", 1, 2, 60)

    def test_gaps_of_the_book(self):
        facts = [("above", "a", "b", 2, 6, 5), ("above", "b", "a", 3, 3, -7)]
        book = two_levels(facts, (10, 1, 1))
        self.check(book, "a", "b", 3, 3, 7)
        self.check(book, "a", "b", 2, 6, 7)
        self.check(book, "a", "b", 4, 6, 9)
        self.check(book, "b", "a", 2, 6, -5)
        self.check(book, "b", "a", 6, 10, -5)
        self.check(book, "b", "a", 7, 10, -3)
        self.check(book, "b", "a", 3, 3, -5)

    def test_four_alarms_and_eight_facts(self):
        facts = [("silent", "a", 2, 4, 30, 40), ("silent", "b", 2, 4, 35, 60), ("silent", "a", 4, 8, 20, 38),
                 ("silent", "b", 6, 9, 62, 70), ("read", "a", 3, 3, 31, 50), ("read", "b", 3, 3, 20, 66),
                 ("above", "b", "a", 8, 8, -35), ("read", "a", 9, 9, 25, 75)]
        book = two_levels(facts)
        self.assertEqual(len(book), 8)
        self.check(book, "a", "b", 2, 4, 26)
        for a, b in ((0, 10), (3, 3), (5, 5), (7, 9), (8, 8), (9, 10), (0, 0), (10, 10)):
            gap = greatest_gap(book, "a", "b", a, b)[0]
            self.check(book, "a", "b", a, b, gap)
            gap = greatest_gap(book, "b", "a", a, b)[0]
            self.check(book, "b", "a", a, b, gap)
        self.assertEqual(greatest_gap(book, "a", "b", 8, 8)[0], 35)
        # All eight of one kind, and the ninth one is told of rightly.
        book = two_levels([("above", "a", "b", at, at, -at) for at in range(8)], (10, 1, 1))
        self.check(book, "b", "a", 0, 0, 0)
        self.check(book, "b", "a", 0, 3, 0)
        self.check(book, "b", "a", 7, 10, 7)
        self.check(book, "a", "b", 0, 10, 100)

    def test_by_names_and_other_kinds_of_numbers(self):
        book = three_levels([READ_TANK, READ_B])
        self.assertEqual(greatest_gap(book=book, one="tank", other="b", a=5, b=6), greatest_gap(book, "tank", "b", 5, 6))
        self.assertEqual(greatest_gap(b=Exact(6), a=Exact(5), other="b", one="tank", book=book)[0], 41)
        self.assertIs(type(greatest_gap(book, "tank", "b", Exact(11, 2), Exact(11, 2))[0]), int)


class Equal(unittest.TestCase):
    def check(self, book, a, b, wanted, names=("tank", "b")):
        """Both ways round."""
        self.assertIs(surely_equal(book, names[0], names[1], a, b), wanted)
        self.assertIs(surely_equal(book, names[1], names[0], a, b), wanted)

    def test_at_one_moment(self):
        book = three_levels([("read", "tank", 5, 5, 50, 50), ("read", "b", 5, 5, 50, 50)])
        for a, b, wanted in ((5, 5, True), (0, 10, True), (0, 5, True), (5, 10, True), (4, 6, True), (0, 4, False),
                             (6, 10, False), (5 + TINY, 10, False), (0, 5 - TINY, False), (0, 0, False)):
            self.check(book, a, b, wanted)
            self.check(book, a, b, False, ("tank", "c"))

    def test_at_unlike_moments(self):
        """Tank is below at 2 and above at 6; where they meet is not known."""
        facts = [("read", "tank", 2, 2, 40, 49), ("read", "b", 2, 2, 50, 55), ("read", "tank", 6, 6, 60, 65),
                 ("read", "b", 6, 6, 50, 59)]
        book = Book(0, 10, 0, 100, [("tank", [(10, 9, 9)]), ("b", [(10, 9, 9)])], facts)
        for a, b, wanted in ((2, 6, True), (0, 10, True), (2, 10, True), (0, 6, True), (2, 2, False), (6, 6, False),
                             (3, 6, False), (2, 5, False), (4, 4, False), (0, 2, False), (7, 10, False)):
            self.check(book, a, b, wanted)
        facts[2] = ("read", "tank", 6, 6, 58, 65)
        self.check(Book(0, 10, 0, 100, [("tank", [(10, 9, 9)]), ("b", [(10, 9, 9)])], facts), 0, 10, False)

    def test_levels_that_may_touch(self):
        facts = [("read", "tank", 5, 5, 40, 50), ("read", "b", 5, 5, 50, 60)]
        self.check(three_levels(facts), 5, 5, False)
        self.check(three_levels(facts), 0, 10, False)
        self.check(three_levels([("above", "tank", "b", 5, 5, 0)]), 5, 5, False)
        self.check(three_levels([("above", "tank", "b", 5, 5, 0), ("above", "b", "tank", 5, 5, 0)]), 5, 5, True)
        self.check(three_levels([("above", "tank", "b", 5, 5, 0), ("above", "b", "tank", 6, 6, 0)]), 5, 6, True)
        self.check(three_levels([("above", "tank", "b", 5, 5, 0), ("above", "b", "tank", 6, 6, 0)]), 5, 5, False)
        self.check(three_levels([("above", "tank", "b", 5, 5, 0), ("above", "b", "tank", 6, 6, -TINY)]), 0, 10, False)
        self.check(three_levels(), 0, 10, False)

    def test_alarms(self):
        """Tank is above its alarm at 3 and below it at 7, and b stays between its marks."""
        quick = [(10, 100, 100)]
        facts = [("silent", "tank", 3, 4, 40, 60), ("silent", "tank", 6, 7, 40, 60), ("read", "tank", 3, 3, 41, 90),
                 ("read", "tank", 7, 7, 10, 59), ("read", "b", 0, 10, 45, 55)]
        book = Book(0, 10, 0, 100, [("tank", quick), ("b", quick)], facts)
        for a, b, wanted in ((4, 6, True), (3, 7, True), (0, 10, True), (4, 5, False), (5, 6, False), (3, 4, False)):
            self.check(book, a, b, wanted)
        self.check(book.without(2), 0, 10, False)
        self.check(book.without(0), 0, 10, False)

    def test_third_level(self):
        facts = [("above", "tank", "c", 2, 2, 0), ("above", "c", "b", 2, 2, 0), ("above", "b", "c", 7, 7, 1),
                 ("above", "c", "tank", 7, 7, -1)]
        self.check(three_levels(facts), 2, 7, True)
        self.check(three_levels(facts), 2, 2, False)
        self.check(three_levels(facts), 7, 7, False)
        facts[3] = ("above", "c", "tank", 7, 7, -1 - TINY)
        self.check(three_levels(facts), 2, 7, False)

    def test_eight_facts(self):
        facts = [("read", "a", 0, 0, 10, 20), ("read", "b", 0, 0, 20, 30), ("read", "a", 9, 9, 30, 35),
                 ("read", "b", 9, 9, 20, 30), ("silent", "a", 3, 4, 50, 60), ("silent", "b", 3, 4, 50, 60),
                 ("silent", "a", 5, 7, 30, 31), ("silent", "b", 5, 7, 29, 30)]
        book = two_levels(facts)
        self.check(book, 0, 9, True, ("a", "b"))
        self.check(book, 0, 10, True, ("a", "b"))
        self.check(book, 1, 9, False, ("a", "b"))
        self.check(book, 0, 8, False, ("a", "b"))

    def test_by_names(self):
        book = three_levels([("read", "tank", 5, 5, 50, 50), ("read", "b", 5, 5, 50, 50)])
        self.assertIs(surely_equal(book=book, one="tank", other="b", a=5, b=5), True)
        self.assertIs(surely_equal(b=4, a=Exact(3), other="b", one="tank", book=book), False)


class Wrong(unittest.TestCase):
    def check(self, error, held, book, *asked):
        for call in (greatest_gap, surely_equal):
            check_error(self, error, held, lambda: call(book, *asked))

    def test_unknown_levels(self):
        for book in (three_levels(), unfit_book()):
            for name in no_names():
                for a, b in ((2, 5), (None, None), (5, 2), (-1, 11)):
                    self.check(UnknownLevel, name, book, name, "b", a, b)
                    self.check(UnknownLevel, name, book, name, "zzz", a, b)
                    self.check(UnknownLevel, name, book, name, None, a, b)
                    self.check(UnknownLevel, name, book, "b", name, a, b)

    def test_twice_the_same_level(self):
        for book in (three_levels(), unfit_book()):
            for name in ("tank", "b", "c"):
                same = "".join(list(name))
                for a, b in ((2, 5), (None, None), (5, 2)):
                    self.check(UnknownLevel, same, book, name, same, a, b)

    def test_moments(self):
        for book in (three_levels(), unfit_book()):
            for moment in no_moments():
                self.check(BadMoment, moment, book, "tank", "b", moment, 5)
                self.check(BadMoment, moment, book, "tank", "b", moment, None)
                self.check(BadMoment, moment, book, "c", "tank", moment, -3)
                self.check(BadMoment, moment, book, "tank", "b", 5, moment)
                self.check(BadMoment, moment, book, "b", "tank", 0, moment)

    def test_moments_the_wrong_way_round(self):
        for book in (three_levels(), unfit_book()):
            for a, b in ((5, 4), (10, 0), (Exact(1, 2), Exact(1, 3)), (5, 5 - TINY), (5 + TINY, Exact(5)), (1, Exact(0))):
                self.check(BadMoment, b, book, "tank", "b", a, b)

    def test_books_that_no_history_fits(self):
        ring = three_levels([("above", "b", "c", 5, 5, 1), ("above", "c", "b", 5, 5, 0)])
        silent = three_levels([("silent", "tank", 5, 5, 40, 50), ("read", "tank", 5, 5, 41, 49)])
        beyond = three_levels([("read", "c", 0, 10, 101, 102)])
        full = three_levels([("above", "tank", "b", 0, 10, 50), ("above", "b", "c", 0, 10, 50 + TINY)]
                            + [("read", "tank", 0, 10, 0, 100)] * 6)
        for book in (unfit_book(), ring, silent, beyond, full):
            for names in (("tank", "b"), ("c", "tank"), ("b", "c")):
                for a, b in ((5, 5), (0, 10), (0, 0)):
                    self.check(Unfit, None, book, *names, a, b)


class Forms(unittest.TestCase):
    def book(self):
        return three_levels([("silent", "tank", 2, 4, 40, 50), ("above", "tank", "b", 3, Exact(7, 2), 5),
                             ("read", "b", 6, 6, 30, 70), ("read", "tank", 3, 3, 20, HALF + 45)])

    def test_same_again(self):
        book = self.book()
        wanted = kinds(greatest_gap(book, "tank", "b", 1, Exact(10, 3))[0])
        frame, levels, facts = [as_lists(part) for part in (book.frame(), book.levels(), book.facts())]
        for other in (book, Book(*as_exacts(frame), as_exacts(levels), as_exacts(facts)), Book.of_text(book.text())):
            a, b = Exact(1), Exact(10, 3)
            gap, history = greatest_gap(other, "tank", "b", a, b)
            self.assertEqual(kinds(gap), wanted)
            self.assertEqual(history, greatest_gap(book, "tank", "b", 1, Exact(10, 3))[1])
            scramble([line.points() for line in history])
            scramble((gap,))
            history.pop()
            self.assertEqual(kinds(greatest_gap(other, "tank", "b", a, b)[0]), wanted)
            self.assertEqual(len(greatest_gap(other, "tank", "b", a, b)[1]), 3)
            self.assertEqual(kinds((a, b)), kinds((Exact(1), Exact(10, 3))))
            self.assertEqual(other, self.book())


class Randoms(Gaps):
    def test_random_gaps(self):
        source = random.Random(26)
        seen = {True: 0, False: 0}
        for count in range(120):
            book = random_book(source, silents=4, facts=8)
            if len(book.names()) > 1 and is_fit(book):
                one, other = source.sample(book.names(), 2)
                a, b = stretch(source, book.frame()[1])
                gap, history = greatest_gap(book, one, other, a, b)
                self.check_greatest(book, ("above", one, other, a, b), gap, history)
                seen[gap > 0] += 1
        self.assertGreater(min(seen.values()), 8)

    def test_random_equals(self):
        source = random.Random(27)
        seen = {True: 0, False: 0}
        for count in range(100):
            book = self.crossing_book(source)
            if is_fit(book):
                a, b = source.choice(((0, 5), (0, 4), (0, 4), (1, 4), (0, 3), stretch(source, 5)))
                tiny = Exact(1, 10 ** 12)
                wanted = not any(Oracle(book, further=[("above", *names, a, b, tiny)]).fits()
                                 for names in (("a", "b"), ("b", "a")))
                self.assertIs(surely_equal(book, "a", "b", a, b), wanted)
                self.assertIs(surely_equal(book, "b", "a", a, b), wanted)
                seen[wanted] += 1
        self.assertGreater(min(seen.values()), 10)

    def crossing_book(self, source):
        """A book of two levels of which the one is likely to be below at first, and above later."""
        facts = [("read", "a", 0, 0, 2, source.randint(2, 5)), ("read", "b", 0, 0, source.randint(4, 6), 8),
                 ("read", "b", 4, 4, 2, source.randint(2, 5)), ("read", "a", 4, 4, source.randint(4, 6), 8)]
        facts += [("silent", source.choice("ab"), *stretch(source, 4), 3, source.randint(4, 6)) for _ in range(2)]
        source.shuffle(facts)
        rates = [(source.choice((2, 3)), 4, 5), (5, 3, 4)]
        return Book(0, 5, 0, 10, [("a", rates), ("b", [(5, 4, 4)])], facts)


if __name__ == "__main__":
    unittest.main()
