"""Promises 2, 16 and 19: the lowest and the highest history, and whether there is one."""

import random
import unittest
from fractions import Fraction

from surelevels.books import Book
from surelevels.errors import Unfit
from surelevels.exacts import Exact
from surelevels.lines import Line, fits
from surelevels.papers import highest, is_fit, lowest
from tests.oracle import Oracle, ends, exact, fraction, fractions
from tests.randoms import random_book
from tests.things import as_exacts, as_lists, kinds, scramble, small_book

HALF = Exact(1, 2)


class Told(unittest.TestCase):
    def check(self, book, low, high):
        """Low and high: for each level the points of its lowest and its highest line."""
        for found, wanted in ((lowest(book), low), (highest(book), high)):
            self.assertIsInstance(found, list)
            self.assertTrue(all(isinstance(line, Line) for line in found))
            self.assertEqual(kinds([line.points() for line in found]), kinds(wanted))
            self.assertIs(fits(book, found), True)
        self.assertIs(is_fit(book), True)

    def check_unfit(self, book):
        self.assertIs(is_fit(book), False)
        for call in (lowest, highest):
            with self.assertRaises(Unfit) as caught:
                call(book)
            self.assertEqual(vars(caught.exception), {})

    def test_no_facts(self):
        self.check(small_book(), [[(0, 0), (10, 0)]], [[(0, 100), (10, 100)]])

    def test_read(self):
        self.check(small_book([("read", "tank", 5, 5, 50, 60)]), [[(0, 40), (5, 50), (10, 45)]],
                   [[(0, 65), (5, 60), (10, 70)]])
        self.check(small_book([("read", "tank", 4, 6, 50, 60)]), [[(0, 42), (4, 50), (6, 50), (10, 46)]],
                   [[(0, 64), (4, 60), (6, 60), (10, 68)]])
        self.check(small_book([("read", "tank", 0, 10, 50, 60)]), [[(0, 50), (10, 50)]], [[(0, 60), (10, 60)]])

    def test_reads_with_bends_between(self):
        book = small_book([("read", "tank", 0, 0, 50, 60), ("read", "tank", 10, 10, 50, 60)])
        self.check(book, [[(0, 50), (Exact(20, 3), 50 - Exact(20, 3)), (10, 50)]],
                   [[(0, 60), (Exact(10, 3), 60 + Exact(20, 3)), (10, 60)]])

    def test_bottom_and_top_between(self):
        book = small_book([("read", "tank", 0, 0, 2, 98), ("read", "tank", 10, 10, 2, 98)])
        self.check(book, [[(0, 2), (2, 0), (9, 0), (10, 2)]], [[(0, 98), (1, 100), (8, 100), (10, 98)]])

    def test_read_mark_between(self):
        book = small_book([("read", "tank", 0, 0, 52, 58), ("read", "tank", 0, 10, 50, 60),
                           ("read", "tank", 10, 10, 52, 58)])
        self.check(book, [[(0, 52), (2, 50), (9, 50), (10, 52)]], [[(0, 58), (1, 60), (8, 60), (10, 58)]])

    def test_marks_beyond_the_frame(self):
        self.check(small_book([("read", "tank", 0, 10, -50, 500)]), [[(0, 0), (10, 0)]], [[(0, 100), (10, 100)]])
        self.check_unfit(small_book([("read", "tank", 0, 0, -5, -1)]))
        self.check_unfit(small_book([("read", "tank", 10, 10, 101, 102)]))
        self.check(small_book([("read", "tank", 0, 0, 100, 101)]), [[(0, 100), (10, 90)]], [[(0, 100), (10, 100)]])

    def test_several_rates(self):
        book = Book(0, 10, 0, 100, [("a", [(4, 2, 1), (6, 0, 3), (10, 5, 0)])], [("read", "a", 5, 5, 50, 50)])
        self.check(book, [[(0, 42), (4, 50), (5, 50), (6, 47), (10, 47)]],
                   [[(0, 57), (4, 53), (5, 50), (6, 50), (10, 70)]])

    def test_contradicting_reads(self):
        facts = [("read", "tank", 2, 2, 50, 50), ("read", "tank", 5, 5, 56, 56)]
        self.check(small_book(facts), [[(0, 46), (5, 56), (10, 51)]], [[(0, 52), (2, 50), (10, 66)]])
        facts[1] = ("read", "tank", 5, 5, 56 + Exact(1, 10 ** 30), 60)
        self.check_unfit(small_book(facts))
        self.check_unfit(small_book([("read", "tank", 5, 5, 1, 2), ("read", "tank", 5, 5, 3, 4)]))

    def test_silent_raised_by_a_reading(self):
        """50 at moment 0 is 48 at least at moment 2, so the level is above 45 and not below 55."""
        facts = [("read", "tank", 0, 0, 50, 70), ("silent", "tank", 2, 4, 45, 55)]
        self.check(small_book(facts), [[(0, 51), (2, 55), (4, 55), (10, 49)]], [[(0, 70), (10, 90)]])

    def test_silent_that_only_just_holds(self):
        facts = [("read", "tank", 0, 0, 50, 70), ("silent", "tank", 2, 4, 48, 55)]
        self.check(small_book(facts), [[(0, 50), (10, 40)]], [[(0, 70), (10, 90)]])

    def test_silent_lowered_by_a_reading(self):
        facts = [("read", "tank", 0, 0, 30, 40), ("silent", "tank", 2, 4, 42, 45)]
        self.check(small_book(facts), [[(0, 30), (10, 20)]],
                   [[(0, 40), (Exact(4, 3), 42 + Exact(2, 3)), (2, 42), (4, 42), (10, 54)]])

    def test_silent_at_one_moment(self):
        facts = [("read", "tank", 3, 3, 41, 60), ("silent", "tank", 3, 3, 40, 50)]
        self.check(small_book(facts), [[(0, 44), (3, 50), (10, 43)]], [[(0, 63), (3, 60), (10, 74)]])
        self.check(small_book([facts[1]]), [[(0, 0), (10, 0)]], [[(0, 100), (10, 100)]])
        self.check_unfit(small_book([("read", "tank", 3, 3, 41, 49), facts[1]]))

    def test_silent_raised_by_bottom(self):
        self.check(small_book([("silent", "tank", 2, 4, -5, 5)]), [[(0, 1), (2, 5), (4, 5), (9, 0), (10, 0)]],
                   [[(0, 100), (10, 100)]])
        self.check(small_book([("silent", "tank", 2, 4, 95, 105)]), [[(0, 0), (10, 0)]],
                   [[(0, 97), (2, 95), (4, 95), (Exact(13, 2), 100), (10, 100)]])
        self.check_unfit(small_book([("silent", "tank", 2, 4, -5, 105)]))
        self.check(small_book([("silent", "tank", 2, 4, 0, 100)]), [[(0, 0), (10, 0)]], [[(0, 100), (10, 100)]])

    def test_silent_raised_by_another_one(self):
        facts = [("silent", "tank", 5, 5, 54, 60), ("silent", "tank", 8, 9, 55, 70), ("silent", "tank", 2, 4, 45, 55),
                 ("read", "tank", 0, 0, 50, 90)]
        # It is not below 54 at moment 5, and not below 51 at moment 8: neither is above the low of its fact.
        self.check(small_book(facts), [[(0, 51), (2, 55), (4, 55), (10, 49)]], [[(0, 90), (5, 100), (10, 100)]])
        # Now it is, so it is not below 60 at moment 5, and not below 57 at moment 8, which raises the second one.
        facts[0] = ("silent", "tank", 5, 5, 53, 60)
        self.check(small_book(facts), [[(0, 54), (8, 70), (9, 70), (10, 69)]], [[(0, 90), (5, 100), (10, 100)]])

    def test_levels_above_others(self):
        rates = [(10, 1, 1)]
        levels = [("a", rates), ("b", rates), ("c", rates)]
        facts = [("read", "a", 0, 0, 50, 60), ("above", "a", "b", 2, 2, 3), ("above", "b", "c", 6, 6, -4)]
        self.check(Book(0, 10, 0, 100, levels, facts),
                   [[(0, 50), (10, 40)], [(0, 49), (2, 51), (10, 43)], [(0, 37), (6, 43), (10, 39)]],
                   [[(0, 60), (10, 70)], [(0, 100), (10, 100)], [(0, 100), (10, 100)]])
        facts[0] = ("read", "c", 0, 0, 50, 60)
        self.check(Book(0, 10, 0, 100, levels, facts),
                   [[(0, 0), (10, 0)], [(0, 1), (2, 3), (5, 0), (10, 0)], [(0, 50), (10, 40)]],
                   [[(0, 73), (2, 71), (10, 79)], [(0, 76), (6, 70), (10, 74)], [(0, 60), (10, 70)]])

    def test_above_bends_other_levels(self):
        """Between two ends a level bends where another one, which is always below it, does."""
        levels = [("a", [(10, 1, 1)]), ("b", [(10, 20, 20)])]
        facts = [("read", "a", 0, 0, 50, 50), ("read", "a", 10, 10, 50, 50), ("above", "a", "b", 0, 10, 2),
                 ("read", "b", 0, 0, 60, 60), ("read", "b", 10, 10, 60, 60)]
        book = Book(0, 10, 0, 100, levels, facts)
        share = Exact(8, 19)
        self.check(book, [[(0, 50), (5, 45), (10, 50)],
                          [(0, 60), (share, 52 - share), (5, 47), (10 - share, 52 - share), (10, 60)]],
                   [[(0, 50), (5, 55), (10, 50)], [(0, 60), (2, 100), (8, 100), (10, 60)]])

    def test_above_over_two_levels_inside_a_span(self):
        levels = [("a", [(10, 1, 1)]), ("b", [(10, 20, 20)]), ("c", [(10, 20, 20)])]
        facts = [("above", "a", "b", 0, 10, 2), ("above", "b", "c", 0, 10, 3), ("read", "a", 0, 0, 50, 60),
                 ("read", "a", 10, 10, 50, 60)]
        self.check(Book(0, 10, 0, 100, levels, facts),
                   [[(0, 50), (5, 45), (10, 50)], [(0, 52), (5, 47), (10, 52)], [(0, 55), (5, 50), (10, 55)]],
                   [[(0, 60), (5, 65), (10, 60)], [(0, 97), (10, 97)], [(0, 100), (10, 100)]])

    def test_three_pieces_through_one_point(self):
        """A level falls, stands on its mark for no time at all, and is taken along by another one."""
        levels = [("a", [(10, 2, 2)]), ("b", [(10, 3, 1)])]
        facts = [("read", "b", 0, 10, 45, 55), ("read", "b", 0, 0, 50, 50), ("read", "a", 10, 10, 55, 55),
                 ("above", "a", "b", 0, 10, 0)]
        self.check(Book(0, 10, 0, 100, levels, facts),
                   [[(0, 35), (10, 55)], [(0, 50), (5, 45), (10, 55)]],
                   [[(0, 50), (Exact(5, 2), 55), (10, 55)], [(0, 50), (Exact(5, 3), 55), (10, 55)]])

    def test_silent_raised_by_a_gap(self):
        levels = [("a", [(10, 1, 1)]), ("b", [(10, 1, 1)])]
        facts = [("silent", "b", 4, 6, 50, 60), ("above", "a", "b", 3, 3, 4), ("read", "a", 0, 0, 51, 51)]
        self.check(Book(0, 10, 0, 100, levels, facts), [[(0, 51), (10, 41)], [(0, 56), (4, 60), (6, 60), (10, 56)]],
                   [[(0, 51), (10, 61)], [(0, 100), (10, 100)]])

    def test_rings(self):
        levels = [("a", [(10, 1, 2)]), ("b", [(10, 1, 2)]), ("c", [(10, 1, 2)])]
        rows = [
            ([("above", "a", "b", 2, 2, 5), ("above", "b", "a", 2, 2, -4)], False),
            ([("above", "a", "b", 2, 2, 5), ("above", "b", "a", 2, 2, -5)], True),
            ([("above", "a", "b", 2, 2, 5), ("above", "b", "a", 4, 4, 1)], True),
            ([("above", "a", "b", 2, 2, 5), ("above", "b", "a", 4, 4, 1 + Exact(1, 10 ** 40))], False),
            ([("above", "a", "b", 2, 2, 1), ("above", "b", "c", 2, 2, 1), ("above", "c", "a", 2, 2, -2)], True),
            ([("above", "a", "b", 2, 2, 1), ("above", "b", "c", 2, 2, 1), ("above", "c", "a", 2, 2, -1)], False),
            ([("above", "a", "b", 1, 5, 1), ("above", "b", "c", 3, 9, 1), ("above", "c", "a", 5, 5, -1)], False),
        ]
        for facts, wanted in rows:
            with self.subTest(facts=facts):
                book = Book(0, 10, 0, 100, levels, facts)
                self.assertIs(is_fit(book), wanted)
                if not wanted:
                    self.check_unfit(book)

    def test_still_levels(self):
        """With rates of nought heights go round without end, but not higher."""
        levels = [("a", [(10, 0, 0)]), ("b", [(10, 0, 0)])]
        facts = [("above", "a", "b", 0, 10, 3), ("above", "b", "a", 2, 8, -3), ("read", "a", 5, 5, 7, 9)]
        self.check(Book(0, 10, 0, 100, levels, facts), [[(0, 7), (10, 7)], [(0, 10), (10, 10)]],
                   [[(0, 9), (10, 9)], [(0, 12), (10, 12)]])

    def test_same_book_in_other_forms(self):
        book = small_book([("read", "tank", 0, 0, 50, 60), ("silent", "tank", 2, 4, 45, 55)])
        other = Book(*as_exacts(book.frame()), as_exacts(as_lists(book.levels())), as_exacts(as_lists(book.facts())))
        self.assertEqual(kinds([line.points() for line in lowest(book)]),
                         kinds([line.points() for line in lowest(book=other)]))
        self.assertEqual(highest(book), highest(book=other))
        self.assertIs(is_fit(book=other), True)

    def test_told_lists_are_new(self):
        book = small_book([("read", "tank", 0, 0, HALF, 60)])
        first = lowest(book)
        scramble(first[0].points())
        scramble(first)
        self.check(book, [[(0, HALF), (HALF, 0), (10, 0)]], [[(0, 60), (10, 80)]])
        self.assertEqual(book, small_book([("read", "tank", 0, 0, HALF, 60)]))


class Randoms(unittest.TestCase):
    def test_random_books(self):
        source = random.Random(16)
        seen = {True: 0, False: 0}
        for number in range(200):
            book = random_book(source)
            more = [exact(Fraction(source.randint(0, 14), 7) * fraction(book.frame()[1]) / 2) for _ in range(3)]
            oracle = Oracle(book, more)
            with self.subTest(book=book.text()):
                self.assertIs(is_fit(book), oracle.fits())
                seen[oracle.fits()] += 1
                if oracle.fits():
                    self.check(book, oracle, source)
                else:
                    self.assertRaises(Unfit, lowest, book)
                    self.assertRaises(Unfit, highest, book)
        self.assertGreater(min(seen.values()), 50)

    def check(self, book, oracle, source):
        low, high = lowest(book), highest(book)
        self.assertIs(fits(book, low), True)
        self.assertIs(fits(book, high), True)
        for name, least, most in zip(book.names(), low, high):
            for moment in oracle.moments:
                self.assertEqual(fraction(least(exact(moment))), oracle.lowest(name, moment))
                self.assertEqual(fraction(most(exact(moment))), oracle.highest(name, moment))
            self.check_slopes(book, fractions(least.points()), 1)
            self.check_slopes(book, fractions(most.points()), -1)
        for number in range(2):
            history = oracle.history(source)
            for least, most, name in zip(low, high, book.names()):
                line = Line([(exact(moment), exact(height)) for moment, height in history[name]])
                self.assertIs(least.is_below(line), True)
                self.assertIs(line.is_below(most), True)

    def check_slopes(self, book, points, sign):
        """Between two neighbouring ends the slope only grows, or for the highest line only shrinks."""
        slopes = [sign * (high - low) / (until - since) for (since, low), (until, high) in zip(points, points[1:])]
        for (moment, height), slope, following in zip(points[1:], slopes, slopes[1:]):
            if moment not in ends(book):
                self.assertLess(slope, following)

    def test_bends_inside_spans(self):
        """The lines at their own bends, which no end is at."""
        source = random.Random(19)
        seen = 0
        for number in range(80):
            book = random_book(source, silents=2, facts=4)
            if is_fit(book):
                low, high = lowest(book), highest(book)
                bends = [point[0] for line in low + high for point in line.points()]
                bends = [moment for moment in bends if fraction(moment) not in ends(book)]
                seen += len(bends)
                oracle = Oracle(book, bends[:6])
                for name, least, most in zip(book.names(), low, high):
                    for moment in bends[:6]:
                        self.assertEqual(fraction(least(moment)), oracle.lowest(name, moment))
                        self.assertEqual(fraction(most(moment)), oracle.highest(name, moment))
        self.assertGreater(seen, 50)


if __name__ == "__main__":
    unittest.main()
