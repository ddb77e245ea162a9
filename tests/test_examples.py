"""Promises 32 to 35: the examples, number by number."""

import unittest

from surelevels.asks import differences, heights, moments, passed, within
from surelevels.books import Book
from surelevels.errors import HasHistory, Unfit
from surelevels.exacts import Exact
from surelevels.follow import follows, needless
from surelevels.gaps import greatest_gap, least_factor, surely_equal
from surelevels.lines import Line, fits
from surelevels.live import Gauges
from surelevels.papers import highest, is_fit, is_paper, lowest, paper
from tests.oracle import Chains
from tests.things import kinds

TANK = [("tank", [(10, 2, 1)])]
READS = [("read", "tank", 0, 0, 50, 50), ("read", "tank", 10, 10, 40, 60)]
ALARM = ("silent", "tank", 2, 8, 51, 55)


class Examples(unittest.TestCase):
    def book(self, *facts):
        return Book(0, 10, 0, 100, TANK, READS + list(facts))

    def same(self, result, wanted):
        self.assertEqual(kinds(result), kinds(wanted))

    def test_32_lines(self):
        book = self.book()
        self.same([line.points() for line in lowest(book)], [[(0, 50), (10, 40)]])
        self.same([line.points() for line in highest(book)], [[(0, 50), (Exact(20, 3), Exact(190, 3)), (10, 60)]])
        self.assertIs(is_fit(book), True)
        self.assertIs(fits(book, lowest(book)), True)
        self.assertIs(fits(book, highest(book)), True)
        self.assertIs(fits(book, [Line([(0, 50), (Exact(20, 3), Exact(190, 3) + Exact(1, 99)), (10, 60)])]), False)

    def test_32_heights(self):
        book = self.book()
        self.same(heights(book, "tank", 5), [(45, 60)])
        self.same(passed(book, "tank"), (50, 50))
        self.same(heights(book, "tank", 0), [(50, 50)])
        self.same(heights(book, "tank", 10), [(40, 60)])
        self.same(moments(book, "tank", Exact(190, 3)), [(Exact(20, 3), Exact(20, 3))])
        self.same(moments(book, "tank", 45), [(5, 10)])
        self.same(within(book, "tank", 45, 60), ([(0, 5)], [(0, 10)]))
        self.assertRaises(HasHistory, paper, book)

    def test_32_facts(self):
        book = self.book()
        self.same(least_factor(book), 0)
        self.same(needless(book), [])
        for low, high, wanted in ((45, 60, True), (46, 60, False), (45, 59, False)):
            self.assertIs(follows(book, ("read", "tank", 5, 5, low, high)), wanted)
        self.assertIs(follows(book, ("silent", "tank", 0, 10, Exact(190, 3), 70)), True)
        self.assertIs(follows(book, ("silent", "tank", 0, 10, 63, 70)), False)

    def test_33(self):
        book = self.book(ALARM)
        self.same(heights(book, "tank", 5), [(45, 51)])
        self.same(heights(book, "tank", 2), [(48, 51)])
        self.same(heights(self.book(), "tank", 2), [(48, 54)])
        self.assertIs(follows(book, ("read", "tank", 2, 8, 0, 51)), True)
        self.assertIs(follows(self.book(), ALARM), False)
        # Up to 51 at moment 8 the tank gets to 55 at moment 10, so it is from 40 to 60 then anyway.
        self.same(needless(book), [1])
        gauges = Gauges(self.book())
        self.assertIs(gauges.add(ALARM), True)
        self.assertIs(gauges.add(("read", "tank", 5, 5, 52, 60)), False)
        # Without what is out of reach at moment 2: the alarm from moment 3 on leaves both sides of it.
        self.same(heights(self.book(("silent", "tank", 3, 8, 51, 55)), "tank", 5), [(45, 51), (55, 60)])

    def test_34(self):
        rates = [(10, 2, 1)]
        book = Book(0, 10, 0, 100, [("a", rates), ("b", rates)],
                    [("above", "a", "b", 2, 2, 5), ("above", "b", "a", 2, 2, -4)])
        self.assertIs(is_fit(book), False)
        self.assertIs(is_paper(book, [("ring", [("from", "a", 2), ("above", 0), ("above", 1)])]), True)
        self.assertIs(is_paper(book, paper(book)), True)
        Chains(book).shows(paper(book))
        self.assertRaises(Unfit, lowest, book)
        self.assertRaises(Unfit, differences, book, "a", "b", 2)
        equal = book.without(1).further([("above", "b", "a", 2, 2, -5)])
        self.same(differences(equal, "a", "b", 2), [(5, 5)])
        self.same([greatest_gap(equal, *names, 2, 2)[0] for names in (("a", "b"), ("b", "a"))], [5, -5])
        self.assertRaises(Unfit, greatest_gap, book, "a", "b", 2, 2)
        self.assertRaises(Unfit, surely_equal, book, "a", "b", 2, 2)
        self.same(least_factor(book), None)
        self.assertIs(is_paper(equal, [("ring", [("from", "a", 2), ("above", 0), ("above", 1)])]), False)

    def test_35(self):
        book = self.book(("read", "tank", 3, 3, 60, 60))
        self.assertIs(is_fit(book), False)
        self.assertIs(is_paper(book, [("pass", 0, [("read", 2, 3), ("run", 0)])]), True)
        self.assertIs(is_paper(book, paper(book)), True)
        Chains(book).shows(paper(book))
        for call in (lowest, highest):
            self.assertRaises(Unfit, call, book)
        self.assertRaises(Unfit, heights, book, "tank", 5)
        self.same(least_factor(book), Exact(5, 3))
        self.same(needless(book), [1])
        # Rises of 10/3 lead from 50 to 60 in three units, and no lesser ones do.
        for factor, wanted in ((Exact(5, 3), True), (Exact(5, 3) - Exact(1, 10 ** 30), False), (2, True)):
            quick = Book(0, 10, 0, 100, [("tank", [(10, 2 * factor, 1 * factor)])], book.facts())
            self.assertIs(is_fit(quick), wanted)


if __name__ == "__main__":
    unittest.main()
