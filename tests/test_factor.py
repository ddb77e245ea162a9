"""Promise 30: the least factor for all rises and falls."""

import random
import unittest

from surelevels.books import Book
from surelevels.exacts import Exact
from surelevels.gaps import least_factor
from surelevels.papers import is_fit
from tests.oracle import Oracle, fraction
from tests.randoms import number, random_book
from tests.things import as_exacts, as_lists, kinds, quickened, scramble, small_book, unfit_book

TINY = Exact(1, 10 ** 30)
START = ("read", "tank", 0, 0, 50, 50)


class Factors(unittest.TestCase):
    def check(self, book, wanted):
        """A factor, or None; the book with it has a history, and that with a little less has none."""
        self.assertEqual(kinds(least_factor(book)), kinds(wanted))
        if wanted is None:
            for factor in (0, 1, 1000, 10 ** 40):
                self.assertIs(is_fit(quickened(book, factor)), False)
                self.assertIs(Oracle(book, factor=factor).fits(), False)
            return
        for factor, fit in ((wanted, True), (wanted - TINY, False), (wanted + TINY, True), (wanted + 1, True)):
            if factor >= 0:
                self.assertIs(is_fit(quickened(book, factor)), fit)
                self.assertIs(Oracle(book, factor=fraction(factor)).fits(), fit)
        self.assertEqual(least_factor(quickened(book, 2)), Exact(1) * wanted * Exact(1, 2))


class Told(Factors):
    def test_nought(self):
        self.check(small_book(), 0)
        self.check(small_book([START]), 0)
        self.check(small_book([START, ("read", "tank", 10, 10, 40, 60)]), 0)
        self.check(small_book([START, ("read", "tank", 0, 10, 50, 50), ("silent", "tank", 0, 10, 50, 70)]), 0)
        self.check(small_book([("silent", "tank", 0, 10, -1, 99), ("silent", "tank", 5, 5, 99, 101)]), 0)

    def test_readings(self):
        for high, wanted in ((70, 1), (60, Exact(1, 2)), (90, 2), (50 + Exact(1, 3), Exact(1, 60)), (50, 0),
                             (45, Exact(1, 2)), (40, 1), (0, 5), (50 - Exact(2, 7), Exact(1, 35)), (100, Exact(5, 2))):
            self.check(small_book([START, ("read", "tank", 10, 10, high, high)]), wanted)
        self.check(small_book([START, ("read", "tank", 3, 3, 60, 60), ("read", "tank", 10, 10, 40, 60)]), Exact(5, 3))
        self.check(small_book([START, ("read", "tank", 3, 6, 56, 70), ("read", "tank", 8, 8, 0, 50)]), 3)

    def test_stages(self):
        """Up by 1 each in 2 units, down by 2 each in 3 units; and nothing moves between 4 and 6."""
        rates = [(4, 1, 2), (6, 0, 0), (10, 3, 1)]
        for a, b, low, high, wanted in ((2, 4, 10, 12, 1), (2, 6, 10, 12, 1), (2, 7, 10, 13, Exact(3, 5)),
                                        (0, 10, 10, 14, Exact(1, 4)), (1, 3, 14, 10, 1), (3, 7, 14, 10, Exact(4, 3)),
                                        (4, 6, 10, 10, 0), (5, 10, 20, 10, Exact(5, 2)), (5, 6, 10, 11, None),
                                        (4, 6, 11, 10, None)):
            self.check(Book(0, 10, 0, 100, [("tank", rates)], [("read", "tank", a, a, low, low),
                                                               ("read", "tank", b, b, high, high)]), wanted)

    def test_rates_of_nought(self):
        still = [("tank", [(10, 0, 0)])]
        self.check(Book(0, 10, 0, 100, still, [START]), 0)
        self.check(Book(0, 10, 0, 100, still, [START, ("read", "tank", 9, 9, 50, 51)]), 0)
        self.check(Book(0, 10, 0, 100, still, [START, ("read", "tank", 9, 9, 51, 52)]), None)
        rising = [("tank", [(10, 2, 0)])]
        self.check(Book(0, 10, 0, 100, rising, [START, ("read", "tank", 9, 9, 51, 52)]), Exact(1, 18))
        self.check(Book(0, 10, 0, 100, rising, [START, ("read", "tank", 9, 9, 48, 49)]), None)
        both = [("tank", [(5, 0, 0), (10, 2, 1)])]
        self.check(Book(0, 10, 0, 100, both, [START, ("read", "tank", 10, 10, 60, 60)]), 1)
        self.check(Book(0, 10, 0, 100, both, [START, ("read", "tank", 4, 4, 60, 60)]), None)

    def test_no_factor(self):
        self.check(unfit_book(), None)
        self.check(small_book([START, ("read", "tank", 0, 0, 51, 52)]), None)
        self.check(small_book([("read", "tank", 3, 6, 40, 50), ("read", "tank", 6, 9, 50 + TINY, 60)]), None)
        self.check(small_book([("read", "tank", 3, 6, -5, -1)]), None)
        self.check(small_book([("read", "tank", 3, 6, 101, 105)]), None)
        self.check(small_book([("silent", "tank", 3, 6, -1, 101)]), None)
        self.check(small_book([("silent", "tank", 3, 6, 40, 60), ("read", "tank", 4, 4, 41, 59)]), None)
        # The readings alone would do with 5.
        self.check(small_book([START, ("read", "tank", 1, 1, 60, 60), ("silent", "tank", 1, 2, 55, 61)]), None)

    def test_alarms_that_must_be_raised(self):
        """Above the low mark at 5, so not below the high one from 2 on."""
        raised = [START, ("silent", "tank", 2, 8, 51, 55), ("read", "tank", 5, 5, 52, 100)]
        self.check(small_book(raised), Exact(5, 4))
        self.check(small_book(raised + [("read", "tank", 9, 9, 0, 52)]), 3)
        self.check(small_book([raised[0], raised[2]]), Exact(1, 5))

    def test_alarms_that_must_not_be_raised(self):
        begin = ("read", "tank", 0, 0, 53, 53)
        alarm = ("silent", "tank", 2, 8, 51, 55)
        self.check(small_book([begin, alarm]), Exact(1, 2))
        self.check(small_book([begin, alarm, ("read", "tank", 5, 5, 0, 54)]), 1)
        self.check(small_book([begin, alarm, ("read", "tank", 5, 5, 54, 99)]), Exact(1, 2))
        self.check(small_book([begin, alarm, ("read", "tank", 5, 5, 54, 57), ("read", "tank", 9, 9, 0, 51)]), 4)

    def test_alarms_that_raise_one_another(self):
        """With slow rates the first alarm raises the second one and this one the third one; quicker ones come down."""
        facts = [("read", "tank", 0, 0, 50, 50), ("silent", "tank", 2, 3, 45, 55), ("silent", "tank", 5, 6, 50, 60),
                 ("silent", "tank", 8, 9, 55, 65)]
        self.check(small_book(facts), Exact(5, 4))
        self.check(small_book(facts + [("read", "tank", 9, 9, 0, 64)]), Exact(5, 2))
        self.check(small_book(facts + [("read", "tank", 9, 9, 0, 64), ("read", "tank", 2, 2, 46, 99)]), Exact(5, 2))
        self.check(small_book(facts + [("read", "tank", 9, 9, 0, 64), ("read", "tank", 5, 5, 51, 99)]), Exact(5, 2))
        self.check(small_book(facts + [("read", "tank", 9, 9, 70, 99), ("read", "tank", 10, 10, 0, 64)]), 6)

    def test_gaps(self):
        levels = [("a", [(10, 2, 1)]), ("b", [(10, 2, 1)])]
        facts = [("read", "a", 0, 0, 50, 50), ("read", "b", 0, 0, 50, 50), ("above", "a", "b", 5, 5, 10)]
        self.check(Book(0, 10, 0, 100, levels, facts), Exact(2, 3))
        facts[2] = ("above", "b", "a", 4, 7, Exact(1, 2))
        self.check(Book(0, 10, 0, 100, levels, facts), Exact(1, 24))
        self.check(Book(0, 10, 0, 100, levels, facts[:2]), 0)

    def test_rings(self):
        """Two gaps at unlike moments: the levels must change places in between."""
        levels = [("a", [(10, 2, 1)]), ("b", [(10, 1, 1)]), ("c", [(10, 0, 0)])]
        facts = [("above", "a", "b", 2, 2, 4), ("above", "b", "a", 5, 5, 3)]
        self.check(Book(0, 10, 0, 100, levels, facts), Exact(7, 9))
        facts += [("above", "a", "c", 3, 3, 5), ("above", "c", "b", 4, 4, 2)]
        self.check(Book(0, 10, 0, 100, levels, facts), 2)
        facts += [("above", "c", "a", 3, 3, -4)]
        self.check(Book(0, 10, 0, 100, levels, facts), None)
        self.check(Book(0, 10, 0, 100, levels, [("above", "a", "b", 2, 2, 5), ("above", "b", "a", 2, 2, -4)]), None)
        self.check(Book(0, 10, 0, 100, levels, [("above", "a", "b", 2, 2, 5), ("above", "b", "a", 2, 2, -5)]), 0)

    def test_four_alarms_and_eight_facts(self):
        levels = [("a", [(2, 1, 2), (6, 3, 1), (10, 1, 1)]), ("b", [(3, 2, 2), (7, 1, 3), (10, 2, 1)]),
                  ("c", [(4, 1, 1), (5, 0, 2), (10, 2, 2)])]
        facts = [("silent", "a", 1, 3, 20, 30), ("silent", "a", 5, 6, 40, 45), ("silent", "b", 2, 4, 30, 50),
                 ("silent", "c", 4, 8, 10, 60), ("read", "a", 0, 0, 22, 24), ("above", "a", "b", 2, 2, 9),
                 ("above", "b", "c", 7, 7, -45), ("read", "c", 10, 10, 20, 50)]
        self.check(Book(0, 10, 0, 100, levels, facts), Exact(5, 2))
        self.check(Book(0, 10, 0, 100, levels, facts[1:]), Exact(5, 2))

    def test_forms(self):
        book = small_book([START, ("read", "tank", 3, 3, 60, 60)])
        self.assertEqual(kinds(least_factor(book=book)), kinds(Exact(5, 3)))
        frame, levels, facts = [as_lists(part) for part in (book.frame(), book.levels(), book.facts())]
        for other in (book, Book(*as_exacts(frame), as_exacts(levels), as_exacts(facts)), Book.of_text(book.text())):
            scramble((least_factor(other),))
            self.assertEqual(kinds(least_factor(other)), kinds(Exact(5, 3)))
            self.assertEqual(other, book)


class Randoms(Factors):
    def test_random_factors(self):
        source = random.Random(30)
        seen = {"none": 0, "nought": 0, "little": 0, "much": 0}
        while min(seen.values()) < 10:
            book = self.tight(random_book(source, silents=4, facts=7), source)
            factor = least_factor(book)
            word = "none" if factor is None else "nought" if factor == 0 else "little" if factor <= 1 else "much"
            seen[word] += 1
            if seen[word] <= 25:
                self.check(book, factor)

    def tight(self, book, source):
        """A book with slow rates and one more reading, likely to be too far from what else is known."""
        mark = number(source, 0, 12)
        moment = number(source, 0, book.frame()[1])
        slow = quickened(book, Exact(1, source.choice((1, 2, 5, 7))))
        return slow.further([("read", source.choice(book.names()), moment, moment, mark, mark + 1)])


if __name__ == "__main__":
    unittest.main()
