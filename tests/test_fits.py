"""Promise 15, and with it promise 2: which lines are a history that fits a book."""

import random
import unittest

from surelevels.books import Book
from surelevels.errors import BadLine
from surelevels.exacts import Exact
from surelevels.lines import Line, fits
from tests.oracle import Oracle, exact, fractions
from tests.randoms import random_book
from tests.things import as_exacts, no_lists, no_numbers, scramble, small_book

TINY = Exact(1, 10 ** 30)
HALF = Exact(1, 2)
FLAT = Line([(0, 50), (10, 50)])


def lines(*rows):
    return [Line(points) for points in rows]


def two_levels(facts=()):
    rates = [(4, 2, 1), (Exact(13, 2), 0, 3), (10, 5, 5)]
    return Book(0, 10, -20, 100, [("a", rates), ("b", [(10, 100, 100)])], facts)


class Forms(unittest.TestCase):
    def test_a_history(self):
        self.assertIs(fits(small_book(), [FLAT]), True)
        self.assertIs(fits(small_book(), (FLAT,)), True)
        self.assertIs(fits(book=small_book(), lines=[FLAT]), True)
        self.assertIs(fits(two_levels(), [FLAT, FLAT]), True)
        self.assertIs(fits(small_book(), [Line([(Exact(0), 50), (Exact(20, 2), 50)])]), True)

    def test_too_few_or_too_many(self):
        self.assertIs(fits(small_book(), []), False)
        self.assertIs(fits(small_book(), ()), False)
        self.assertIs(fits(small_book(), [FLAT, FLAT]), False)
        self.assertIs(fits(two_levels(), [FLAT]), False)
        self.assertIs(fits(two_levels(), [FLAT, FLAT, FLAT]), False)

    def test_other_ends(self):
        ends = [(0, 9), (1, 10), (0, 11), (-1, 10), (-1, 11), (1, 9), (0, 10 + TINY), (TINY, 10), (0, 10 - TINY)]
        for start, end in ends:
            line = Line([(start, 50), (end, 50)])
            self.assertIs(fits(small_book(), [line]), False)
            self.assertIs(fits(two_levels(), [FLAT, line]), False)
            self.assertIs(fits(two_levels(), [line, FLAT]), False)

    def test_any_objects(self):
        self.assertIs(fits(small_book(), FLAT), False)
        for thing in no_lists() + no_numbers() + [object(), {0: FLAT}, iter([FLAT]), BadLine(FLAT), "a", b"a"]:
            self.assertIs(fits(small_book(), thing), False)
            self.assertIs(fits(small_book(), [thing]), False)
            self.assertIs(fits(two_levels(), [FLAT, thing]), False)
            self.assertIs(fits(two_levels(), [thing, FLAT]), False)
        self.assertIs(fits(small_book(), [[FLAT]]), False)
        self.assertIs(fits(small_book(), FLAT.points()), False)
        self.assertIs(fits(small_book(), [FLAT.points()]), False)

    def test_nothing_is_modified(self):
        book, history = two_levels([("read", "a", 0, 10, 50, 50)]), [FLAT, FLAT]
        fits(book, history)
        self.assertEqual(history, [FLAT, FLAT])
        self.assertEqual(FLAT.points(), [(0, 50), (10, 50)])
        self.assertEqual(book, two_levels([("read", "a", 0, 10, 50, 50)]))


class Rules(unittest.TestCase):
    def check(self, book, wanted, *rows):
        with self.subTest(rows=rows):
            self.assertIs(fits(book, lines(*rows)), wanted)
            self.assertIs(fits(book, tuple(lines(*as_exacts(rows)))), wanted)

    def test_frame(self):
        quick = Book(0, 10, -3, 7, [("a", [(10, 1000, 1000)])])
        self.check(quick, True, [(0, -3), (5, 7), (10, -3)])
        self.check(quick, False, [(0, -3 - TINY), (10, 0)])
        self.check(quick, False, [(0, 0), (10, 7 + TINY)])
        self.check(quick, False, [(0, 0), (5, 7 + TINY), (10, 0)])
        self.check(quick, False, [(0, 0), (5, -3 - TINY), (10, 0)])

    def test_rates(self):
        book = two_levels()
        flat = [(0, 50), (10, 50)]
        best = [(0, 50), (4, 58), (Exact(13, 2), 58), (10, 58 + Exact(35, 2))]
        least = [(0, 50), (4, 46), (Exact(13, 2), 46 - Exact(15, 2)), (10, 21)]
        self.check(book, True, best, flat)
        self.check(book, True, least, flat)
        self.check(book, True, [(0, 50), (1, 52), (2, 51), (4, 55), (5, 52), (6, 52), (10, 52)], flat)
        for wrong in ([(0, 50), (4, 58 + TINY), (10, 58)], [(0, 50), (4, 46 - TINY), (10, 46)],
                      [(0, 50), (1, 50), (2, 52 + TINY), (3, 50), (10, 50)],
                      [(0, 50), (3, 50), (4, 49 - TINY), (10, 49)],
                      [(0, 50), (4, 50), (Exact(13, 2), 50 + TINY), (10, 50)],
                      [(0, 50), (Exact(13, 2), 50), (10, 50 + Exact(35, 2) + TINY)],
                      [(0, 50), (6, 50), (Exact(13, 2), 48), (10, 48)]):
            self.check(book, False, wrong, flat)

    def test_a_straight_line_over_several_rates(self):
        """It has no point at the untils, but each rate counts on its own part."""
        flat = [(0, 50), (10, 50)]
        self.check(two_levels(), False, [(0, 50), (10, 51)], flat)
        self.check(two_levels(), True, [(0, 50), (10, 40)], flat)
        self.check(two_levels(), False, [(0, 50), (10, 40 - TINY)], flat)

    def test_rates_of_nought(self):
        still = Book(0, 10, 0, 100, [("a", [(10, 0, 0)])])
        self.check(still, True, [(0, 5), (10, 5)])
        self.check(still, False, [(0, 5), (10, 5 + TINY)])
        self.check(still, False, [(0, 5), (5, 5 - TINY), (10, 5)])

    def test_read(self):
        book = small_book([("read", "tank", 2, 6, 40, 50)])
        self.check(book, True, [(0, 50), (10, 50)])
        self.check(book, True, [(0, 41), (1, 40), (2, 40), (5, 46), (6, 45), (10, 53)])
        self.check(book, True, [(0, 52), (2, 50), (6, 50), (10, 58)])
        self.check(book, False, [(0, 50), (2, 50 + TINY), (3, 50), (10, 50)])
        self.check(book, False, [(0, 50), (6, 50), (6 + HALF, 51), (7, 50), (10, 60)])
        self.check(book, False, [(0, 45), (4, 50 + TINY), (6, 50), (10, 50)])
        self.check(book, False, [(0, 41), (1, 40), (2, 40 - TINY), (10, 40)])
        self.check(book, False, [(0, 42), (4, 40 - TINY), (6, 42), (10, 42)])
        self.check(book, True, [(0, 50), (6, 50), (6 + HALF, 50 + HALF), (7, 50), (10, 56)])

    def test_read_at_one_moment(self):
        book = small_book([("read", "tank", 3, 3, 50, 50)])
        self.check(book, True, [(0, 50), (10, 50)])
        self.check(book, True, [(0, 44), (3, 50), (10, 43)])
        self.check(book, True, [(0, 47), (6, 53), (10, 53)])
        self.check(book, False, [(0, 47), (6, 53 + TINY), (10, 53)])
        self.check(book, False, [(0, 50 + TINY), (10, 50 + TINY)])
        for moment in (0, 10):
            book = small_book([("read", "tank", moment, moment, 50, 50)])
            self.check(book, True, [(0, 50), (10, 50)])
            self.check(book, False, [(0, 50 - TINY), (10, 50 + TINY)])

    def test_silent(self):
        book = small_book([("silent", "tank", 2, 6, 40, 50)])
        for points in ([(0, 50), (10, 50)], [(0, 40), (10, 40)], [(0, 20), (10, 30)], [(0, 60), (10, 55)],
                       [(0, 46), (2, 50), (4, 54), (6, 52), (10, 48)], [(0, 42), (2, 40), (6, 40), (10, 48)],
                       [(0, 46), (2, 50), (6, 50), (10, 46)]):
            self.check(book, True, points)
        for points in ([(0, 45), (10, 45)], [(0, 50 - TINY), (10, 50 - TINY)], [(0, 40 + TINY), (10, 40 + TINY)],
                       [(0, 52), (10, 42)], [(0, 35), (10, 45)], [(0, 50), (4, 50), (5, 50 - TINY), (6, 50), (10, 50)],
                       [(0, 40), (4, 40), (5, 40 + TINY), (6, 40), (10, 40)], [(0, 30), (5, 40), (6, 42), (10, 50)]):
            self.check(book, False, points)

    def test_silent_all_the_way_across(self):
        """From low to high within a stretch leads through what is between them, even if no point is there."""
        quick = Book(0, 10, 0, 100, [("a", [(10, 1000, 1000)])], [("silent", "a", 2, 6, 40, 50)])
        self.check(quick, False, [(0, 40), (2, 40), (6, 50), (10, 50)])
        self.check(quick, False, [(0, 60), (6, 10), (10, 10)])
        self.check(quick, False, [(0, 10), (4, 10), (5, 90), (10, 90)])
        self.check(quick, True, [(0, 60), (2, 40), (6, 40), (10, 100)])

    def test_silent_at_one_moment(self):
        book = small_book([("silent", "tank", 3, 3, 40, 50)])
        for height in (40, 50, 0, 100, 39, 51):
            self.check(book, True, [(0, height), (10, height)])
        for height in (45, 40 + TINY, 50 - TINY):
            self.check(book, False, [(0, height), (10, height)])
        self.check(book, True, [(0, 37), (3, 40), (10, 54)])
        self.check(book, False, [(0, 38), (3, 41), (10, 41)])

    def test_above(self):
        book = two_levels([("above", "a", "b", 2, 6, 3)])
        flat = [(0, 50), (10, 50)]
        self.check(book, True, flat, [(0, 53), (10, 53)])
        self.check(book, True, flat, [(0, 0), (2, 53), (6, 53), (10, 0)])
        self.check(book, False, flat, [(0, 0), (2, 53 - TINY), (6, 53), (10, 0)])
        self.check(book, False, flat, [(0, 0), (2, 53), (6, 53 - TINY), (10, 0)])
        self.check(book, False, flat, [(0, 53), (4, 53 - TINY), (10, 53)])
        self.check(book, False, [(0, 50), (4, 50 + TINY), (10, 50)], [(0, 53), (10, 53)])
        self.check(book, True, [(0, 50), (1, 51), (2, 50), (10, 50)], [(0, 53), (10, 53)])
        self.check(book, False, [(0, 53), (10, 53)], flat)

    def test_above_at_one_moment_and_below_nought(self):
        book = two_levels([("above", "b", "a", 5, 5, -7)])
        self.check(book, True, [(0, 50), (10, 50)], [(0, 57), (10, 57)])
        self.check(book, False, [(0, 50), (10, 50)], [(0, 57 + TINY), (10, 57 + TINY)])
        self.check(book, True, [(0, 50), (10, 50)], [(0, 90), (4, 90), (5, 57), (6, 90), (10, 90)])
        self.check(book, False, [(0, 50), (10, 50)], [(0, 0), (4, 0), (5, 58), (6, 0), (10, 0)])

    def test_all_facts_count(self):
        facts = [("read", "a", 0, 0, 50, 50), ("above", "a", "b", 1, 1, 0), ("silent", "b", 2, 2, 40, 60),
                 ("read", "b", 9, 9, 70, 70)]
        book = two_levels(facts)
        good = [(0, 60), (9, 70), (10, 70)]
        self.check(book, True, [(0, 50), (10, 50)], good)
        self.check(book, False, [(0, 51), (10, 51)], good)
        self.check(book, False, [(0, 50), (10, 50)], [(0, 49), (1, 49), (2, 60), (9, 70), (10, 70)])
        self.check(book, False, [(0, 50), (10, 50)], [(0, 50), (1, 50), (2, 59), (9, 70), (10, 70)])
        self.check(book, False, [(0, 50), (10, 50)], [(0, 60), (9, 71), (10, 71)])


class Randoms(unittest.TestCase):
    def test_random_histories(self):
        """Histories that another way to look at the book found, and the lower and upper ones of two of them."""
        source = random.Random(15)
        seen = 0
        for number in range(150):
            book = random_book(source, silents=2, facts=5)
            oracle = Oracle(book)
            if oracle.fits():
                seen += 1
                one, other = self.history(oracle, source), self.history(oracle, source)
                self.assertIs(fits(book, one), True)
                self.assertIs(fits(book, other), True)
                self.assertIs(fits(book, [mine.lower(yours) for mine, yours in zip(one, other)]), True)
                self.assertIs(fits(book, [mine.upper(yours) for mine, yours in zip(one, other)]), True)
        self.assertGreater(seen, 70)

    def history(self, oracle, source):
        history = oracle.history(source)
        return [Line([(exact(moment), exact(height)) for moment, height in history[name]]) for name in history]

    def test_bent_histories(self):
        """A history with one height moved: it fits just if all that is said of the moments around it holds."""
        source = random.Random(16)
        seen = {True: 0, False: 0}
        for number in range(200):
            book = random_book(source, silents=2, facts=5)
            oracle = Oracle(book)
            if oracle.fits():
                history = oracle.history(source)
                name = source.choice(list(history))
                at = source.randrange(len(history[name]))
                moment, height = history[name][at]
                history[name][at] = (moment, height + source.choice((-1, 1)) * fractions(Exact(1, 3)))
                wanted = self.keeps_all(oracle, history)
                seen[wanted] += 1
                self.assertIs(fits(book, [Line([(exact(moment), exact(height)) for moment, height in spots])
                                          for spots in history.values()]), wanted)
        self.assertGreater(min(seen.values()), 20)

    def keeps_all(self, oracle, history):
        """Whether a history with points at all ends fits: then the ends are all that counts."""
        heights = [0] + [dict(history[name])[moment] for name, moment in oracle.places[1:]]
        common = oracle.common_matrix()
        for one, row in enumerate(common):
            for other, rise in enumerate(row):
                if rise is not None and heights[one] * oracle.scale + rise > heights[other] * oracle.scale:
                    return False
        for fact in oracle.facts:
            if fact[0] == "silent":
                inside = [heights[place] for place in oracle.covered(fact[1], fact[2], fact[3])]
                if max(inside) > fact[4] and min(inside) < fact[5]:
                    return False
        return True

    def test_changed_behind(self):
        points = [[0, Exact(50)], [10, 50]]
        history = [Line(points)]
        scramble(points)
        scramble(history[0].points())
        self.assertIs(fits(small_book(), history), True)


if __name__ == "__main__":
    unittest.main()
