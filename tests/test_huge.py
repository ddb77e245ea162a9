"""Promise 5: numbers of 60 digits, through all of the package but its books and numbers alone."""

import random
import unittest

from surelevels.asks import differences, heights, moments, within
from surelevels.books import Book
from surelevels.errors import BadFact, BadHeight, BadMoment, BadPoint
from surelevels.exacts import Exact
from surelevels.follow import follows, needless
from surelevels.gaps import greatest_gap, least_factor, surely_equal
from surelevels.lines import Line, fits
from surelevels.live import Gauges
from surelevels.papers import highest, is_fit, is_paper, lowest, paper
from tests.changes import Change, Changed
from tests.oracle import Chains, Oracle, fraction, fractions
from tests.randoms import random_book
from tests.things import kinds, quickened

HUGE = 10 ** 60 - 1
TINY = Exact(1, HUGE)


class Mapped(Changed):
    """Books in huge and tiny units of time and of height: all answers must be those of the small book in them."""

    def test_mapped(self):
        changes = [
            Change((10 ** 57 + 9, 10 ** 59 // 7), (10 ** 56 + 3, -(10 ** 58) - 1)),
            Change((Exact(10 ** 30 + 57, 10 ** 31 + 33), 10 ** 58 + 11),
                   (Exact(10 ** 29 + 1, 10 ** 30 + 7), Exact(-1, 10 ** 29 + 3))),
            Change((Exact(1, 10 ** 59 + 7), -5), (Exact(10 ** 59 + 19, 10 ** 58 + 21), 10 ** 59)),
        ]
        source = random.Random(5)
        seen = {True: 0, False: 0}
        for count in range(90):
            small = random_book(source, silents=3, facts=8)
            seen[self.check(small, changes[count - count // 3 * 3], source)] += 1
        self.assertGreater(min(seen.values()), 20)


class Unders(unittest.TestCase):
    """Books in which each number has an under of 60 digits of its own."""

    def moved(self, value, source):
        return value + Exact(source.randint(1, 10 ** 57), source.randint(10 ** 59, HUGE))

    def book(self, source, silents, facts):
        small = random_book(source, silents, facts)
        start, end, bottom, top = small.frame()
        moments = {}
        for text in {moment.text() for moment in self.moments_of(small)}:
            moments[text] = self.moved(Exact.of_text(text), source)
        end = moments[Exact(end).text()]
        levels = [(name, [(moments[(Exact(1) * until).text()], self.moved(rise, source), self.moved(fall, source))
                          for until, rise, fall in rates]) for name, rates in small.levels()]
        found = []
        for fact in small.facts():
            words = fact[:3] if fact[0] == "above" else fact[:2]
            a, b = [moments[(Exact(1) * moment).text()] for moment in fact[len(words):len(words) + 2]]
            marks = [self.moved(mark, source) for mark in fact[len(words) + 2:]]
            found.append((*words, a, b, *(marks if marks[0] <= marks[-1] else marks[::-1])))
        return Book(moments["0"], end, self.moved(bottom, source), self.moved(top, source), levels, found)

    def moments_of(self, book):
        found = [*book.frame()[:2]] + [rate[0] for name, rates in book.levels() for rate in rates]
        for fact in book.facts():
            found += fact[3:5] if fact[0] == "above" else fact[2:4]
        return [Exact(1) * moment for moment in found]

    def test_unders(self):
        source = random.Random(6)
        seen = {True: 0, False: 0}
        for count in range(36):
            book = self.book(source, 2, 4)
            start, end = book.frame()[:2]
            moment = start + (end - start) * Exact(source.randint(0, 10 ** 60), 10 ** 60)
            oracle = Oracle(book, [moment])
            seen[oracle.fits()] += 1
            self.assertIs(is_fit(book), oracle.fits())
            if not oracle.fits():
                self.assertIs(is_paper(book, paper(book)), True)
                Chains(book).shows(paper(book))
                continue
            low, high = lowest(book), highest(book)
            self.assertIs(fits(book, low) and fits(book, high), True)
            for name, least, most in zip(book.names(), low, high):
                self.assertEqual(fractions(heights(book, name, moment)), oracle.heights(name, moment))
                self.assertEqual(fraction(least(moment)), oracle.lowest(name, moment))
                self.assertEqual(fraction(most(moment)), oracle.highest(name, moment))
                self.assertIs(least.is_below(most), True)
                height = least(moment)
                self.assertTrue(any(a <= moment <= b for a, b in moments(book, name, height)))
                self.assertEqual(moments(book, name, height), within(book, name, height, height)[1])
                for other in book.names():
                    if other != name:
                        self.assertEqual(fractions(differences(book, name, other, moment)),
                                         oracle.differences(name, other, moment))
        self.assertGreater(min(seen.values()), 4)

    def test_factors(self):
        source = random.Random(7)
        tiny = Exact(1, HUGE ** 40)
        seen = {"none": 0, "nought": 0, "more": 0}
        for count in range(40):
            book = self.book(source, 3, 6)
            book = quickened(book, Exact(1, source.randint(10 ** 59, HUGE)).by(Exact(1, source.randint(10 ** 58, HUGE))))
            factor = least_factor(book)
            seen["none" if factor is None else "nought" if factor == 0 else "more"] += 1
            if factor is None:
                self.assertIs(Oracle(book, factor=HUGE).fits(), False)
            else:
                self.assertIs(is_fit(quickened(book, factor)), True)
                self.assertIs(Oracle(book, factor=fraction(factor)).fits(), True)
                if factor != 0:
                    self.assertIs(Oracle(book, factor=fraction(factor - tiny)).fits(), False)
        self.assertGreater(min(seen.values()), 4)

    def test_gaps(self):
        source = random.Random(8)
        seen = 0
        for count in range(40):
            book = self.book(source, 2, 5)
            if is_fit(book) and len(book.names()) > 1:
                seen += 1
                one, other = source.sample(book.names(), 2)
                start, end = book.frame()[:2]
                a = source.choice([start, *[fact[-3] for fact in book]])
                b = a + (end - a) * Exact(source.randint(0, 10 ** 60), 10 ** 60)
                gap, history = greatest_gap(book, one, other, a, b)
                self.assertEqual(lowest(book.further([("above", one, other, a, b, gap)])), history)
                for more, wanted in ((0, True), (Exact(1, HUGE ** 9), False)):
                    fact = ("above", one, other, a, b, gap + more)
                    self.assertIs(Oracle(book, further=[fact]).fits(), wanted)
                back = greatest_gap(book, other, one, a, b)[0]
                self.assertIs(surely_equal(book, one, other, a, b), gap <= 0 and back <= 0)
        self.assertGreater(seen, 10)

    def test_follows(self):
        source = random.Random(9)
        tiny = Exact(1, HUGE ** 9)
        seen = 0
        for count in range(30):
            book = self.book(source, 2, 5)
            name = source.choice(book.names())
            at = book.names().index(name)
            if is_fit(book):
                seen += 1
                start, end = book.frame()[:2]
                low, high = [lines[at].points() for lines in (lowest(book), highest(book))]
                least, most = low[0][1], high[0][1]
                for height in [height for moment, height in low]:
                    least = height if height < least else least
                for height in [height for moment, height in high]:
                    most = height if most < height else most
                for kind, marks, tighter in (("read", (least, most), (least + tiny, most)),
                                             ("read", (least, most), (least, most - tiny)),
                                             ("silent", (-HUGE, least), (-HUGE, least + tiny)),
                                             ("silent", (most, HUGE), (most - tiny, HUGE))):
                    if marks[0] < marks[1]:
                        self.assertIs(follows(book, (kind, name, start, end, *marks)), True)
                        self.assertIs(follows(book, (kind, name, start, end, *tighter)), False)
                if len(book) < 8:
                    known = book.further([("read", name, start, end, least, most)])
                    self.assertIn(len(book), needless(known))
                    gauges = Gauges(book)
                    self.assertIs(gauges.add(known.facts()[-1]), True)
                    self.assertEqual(gauges.book(), known)
        self.assertGreater(seen, 10)


class Lines(unittest.TestCase):
    def test_lines(self):
        line = Line([(-HUGE, HUGE), (0, -HUGE), (HUGE, HUGE)])
        self.assertEqual(line(-1), -HUGE + 2)
        self.assertEqual(line(TINY), -HUGE + 2 * TINY)
        self.assertEqual(kinds(line.lower(Line([(-HUGE, 0), (HUGE, 0)])).points()),
                         kinds([(-HUGE, 0), (Exact(-HUGE, 2), 0), (0, -HUGE), (Exact(HUGE, 2), 0), (HUGE, 0)]))
        self.assertRaises(BadMoment, line, HUGE + TINY)
        self.assertRaises(BadMoment, line, -HUGE - TINY)
        self.assertRaises(BadPoint, Line, [(TINY, 0), (Exact(1, HUGE + 1), 0)])
        self.assertEqual(len(Line([(0, 0), (1, TINY), (2, 0)]).points()), 3)
        self.assertIs(line.is_below(Line([(-HUGE, HUGE), (0, -HUGE - TINY), (HUGE, HUGE)])), False)

    def test_results_can_be_passed_on(self):
        """The crossing points of crossing lines have more digits than what was passed; they may be passed again."""
        line = Line([(0, 0), (Exact(HUGE, 7), Exact(HUGE, 11)), (HUGE, TINY)])
        for step in range(1, 6):
            other = Line([(0, Exact(step, HUGE - step)), (HUGE, Exact(HUGE - step, step + 13))])
            line = line.lower(other).upper(Line([(0, -1), (HUGE, Exact(1, step))]))
            self.assertEqual(Line(line.points()), line)
            for moment, height in line.points():
                self.assertEqual(line(moment), height)

    def test_errors(self):
        book = Book(0, HUGE, 0, HUGE, [("a", [(HUGE, HUGE, TINY)]), ("b", [(HUGE, 0, 0)])],
                    [("read", "a", HUGE, HUGE, 1, 1)])
        self.assertRaises(BadMoment, heights, book, "a", HUGE + TINY)
        self.assertRaises(BadHeight, within, book, "a", HUGE, HUGE - TINY)
        self.assertRaises(BadMoment, greatest_gap, book, "a", "b", HUGE - TINY, HUGE + TINY)
        self.assertRaises(BadMoment, surely_equal, book, "b", "a", TINY, Exact(1, HUGE + 1))
        self.assertRaises(BadFact, follows, book, ("silent", "a", HUGE, HUGE, 1 + TINY, 1 + Exact(1, HUGE + 1)))
        self.assertRaises(BadFact, Gauges(book).add, ("read", "a", TINY, Exact(1, HUGE + 1), 1, 1))
        self.assertEqual(heights(book, "a", 0), [(0, 2)])
        self.assertEqual(heights(book, "a", HUGE), [(1, 1)])


if __name__ == "__main__":
    unittest.main()
