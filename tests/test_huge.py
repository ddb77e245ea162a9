"""Promise 5: numbers of 60 digits, through lines, papers and asks."""

import random
import unittest

from surelevels.asks import differences, heights, moments, passed, within
from surelevels.books import Book
from surelevels.errors import BadHeight, BadMoment, BadPoint
from surelevels.exacts import Exact
from surelevels.lines import Line, fits
from surelevels.papers import highest, is_fit, is_paper, lowest, paper
from tests.oracle import Chains, Oracle, fraction, fractions
from tests.randoms import number, random_book
from tests.things import kinds

HUGE = 10 ** 60 - 1
TINY = Exact(1, HUGE)


def mapped(number, factor, offset=0):
    """A number times a factor, and an offset; as a result."""
    found = Exact(1) * number * factor + offset
    return found.over if found.under == 1 else found


class Mapped(unittest.TestCase):
    """Books in huge and tiny units of time and of height: all answers must be those of the small book in them."""

    def setUp(self):
        self.scales = [
            (10 ** 57 + 9, 10 ** 59 // 7, 10 ** 56 + 3, -(10 ** 58) - 1),
            (Exact(10 ** 30 + 57, 10 ** 31 + 33), 10 ** 58 + 11, Exact(10 ** 29 + 1, 10 ** 30 + 7),
             Exact(-1, 10 ** 29 + 3)),
            (Exact(1, 10 ** 59 + 7), -5, Exact(10 ** 59 + 19, 10 ** 58 + 21), 10 ** 59),
        ]

    def time(self, moment):
        return mapped(moment, self.scale[0], self.scale[1])

    def height(self, height):
        return mapped(height, self.scale[2], self.scale[3])

    def rate(self, rate):
        return mapped(rate, Exact(1) * self.scale[2] * Exact(1).by(self.scale[0]))

    def fact(self, fact):
        if fact[0] == "above":
            return (*fact[:3], self.time(fact[3]), self.time(fact[4]), mapped(fact[5], self.scale[2]))
        return (*fact[:2], self.time(fact[2]), self.time(fact[3]), self.height(fact[4]), self.height(fact[5]))

    def book(self, book):
        start, end, bottom, top = book.frame()
        levels = [(name, [(self.time(until), self.rate(rise), self.rate(fall)) for until, rise, fall in rates])
                  for name, rates in book.levels()]
        return Book(self.time(start), self.time(end), self.height(bottom), self.height(top), levels,
                    [self.fact(fact) for fact in book.facts()])

    def points(self, lines):
        return [[(self.time(moment), self.height(height)) for moment, height in line.points()] for line in lines]

    def step(self, step):
        return step if step[0] == "above" else (*step[:-1], self.time(step[-1]))

    def paper(self, parts):
        return [(*part[:-1], [self.step(step) for step in part[-1]]) for part in parts]

    def stretches(self, rows, change):
        return [(change(low), change(high)) for low, high in rows]

    def same(self, result, wanted):
        self.assertEqual(kinds(result), kinds(wanted))

    def test_mapped(self):
        source = random.Random(5)
        seen = {True: 0, False: 0}
        for count in range(90):
            small = random_book(source, silents=3, facts=8)
            self.scale = self.scales[count - count // 3 * 3]
            large = self.book(small)
            seen[is_fit(small)] += 1
            self.assertIs(is_fit(large), is_fit(small))
            if is_fit(small):
                self.check_answers(small, large, source)
            else:
                self.assertIs(is_paper(large, self.paper(paper(small))), True)
                self.assertIs(is_paper(large, paper(large)), True)
                Chains(large).shows(paper(large))
        self.assertGreater(min(seen.values()), 20)

    def check_answers(self, small, large, source):
        self.same([line.points() for line in lowest(large)], self.points(lowest(small)))
        self.same([line.points() for line in highest(large)], self.points(highest(small)))
        self.assertIs(fits(large, lowest(large)), True)
        self.assertIs(fits(large, highest(large)), True)
        moment = number(source, 0, small.frame()[1])
        low = number(source, 0, 8)
        high = low + number(source, 0, 4)
        for name in small.names():
            self.same(heights(large, name, self.time(moment)),
                      self.stretches(heights(small, name, moment), self.height))
            self.same(moments(large, name, self.height(low)), self.stretches(moments(small, name, low), self.time))
            sure, possible = within(small, name, low, high)
            self.same(within(large, name, self.height(low), self.height(high)),
                      (self.stretches(sure, self.time), self.stretches(possible, self.time)))
            wanted = passed(small, name)
            self.same(passed(large, name), wanted and (self.height(wanted[0]), self.height(wanted[1])))
            for other in small.names():
                if other != name:
                    self.same(differences(large, name, other, self.time(moment)),
                              self.stretches(differences(small, name, other, moment),
                                             lambda gap: mapped(gap, self.scale[2])))


class Unders(unittest.TestCase):
    """Books in which each number has an under of 60 digits of its own."""

    def moved(self, value, source):
        return value + Exact(source.randint(1, 10 ** 57), source.randint(10 ** 59, HUGE))

    def book(self, source, silents, facts):
        small = random_book(source, silents, facts)
        start, end, bottom, top = small.frame()
        moments = {}
        for text in {moment.text() for moment in self.moments_of(small)}:
            moments[text] = self.moved(Exact.of_text(text), source)
        end = moments[Exact(end).text()]
        levels = [(name, [(moments[(Exact(1) * until).text()], self.moved(rise, source), self.moved(fall, source))
                          for until, rise, fall in rates]) for name, rates in small.levels()]
        found = []
        for fact in small.facts():
            words = fact[:3] if fact[0] == "above" else fact[:2]
            a, b = [moments[(Exact(1) * moment).text()] for moment in fact[len(words):len(words) + 2]]
            marks = [self.moved(mark, source) for mark in fact[len(words) + 2:]]
            found.append((*words, a, b, *(marks if marks[0] <= marks[-1] else marks[::-1])))
        return Book(moments["0"], end, self.moved(bottom, source), self.moved(top, source), levels, found)

    def moments_of(self, book):
        found = [*book.frame()[:2]] + [rate[0] for name, rates in book.levels() for rate in rates]
        for fact in book.facts():
            found += fact[3:5] if fact[0] == "above" else fact[2:4]
        return [Exact(1) * moment for moment in found]

    def test_unders(self):
        source = random.Random(6)
        seen = {True: 0, False: 0}
        for count in range(36):
            book = self.book(source, 2, 4)
            start, end = book.frame()[:2]
            moment = start + (end - start) * Exact(source.randint(0, 10 ** 60), 10 ** 60)
            oracle = Oracle(book, [moment])
            seen[oracle.fits()] += 1
            self.assertIs(is_fit(book), oracle.fits())
            if not oracle.fits():
                self.assertIs(is_paper(book, paper(book)), True)
                Chains(book).shows(paper(book))
                continue
            low, high = lowest(book), highest(book)
            self.assertIs(fits(book, low) and fits(book, high), True)
            for name, least, most in zip(book.names(), low, high):
                self.assertEqual(fractions(heights(book, name, moment)), oracle.heights(name, moment))
                self.assertEqual(fraction(least(moment)), oracle.lowest(name, moment))
                self.assertEqual(fraction(most(moment)), oracle.highest(name, moment))
                self.assertIs(least.is_below(most), True)
                height = least(moment)
                self.assertTrue(any(a <= moment <= b for a, b in moments(book, name, height)))
                self.assertEqual(moments(book, name, height), within(book, name, height, height)[1])
                for other in book.names():
                    if other != name:
                        self.assertEqual(fractions(differences(book, name, other, moment)),
                                         oracle.differences(name, other, moment))
        self.assertGreater(min(seen.values()), 4)


class Lines(unittest.TestCase):
    def test_lines(self):
        line = Line([(-HUGE, HUGE), (0, -HUGE), (HUGE, HUGE)])
        self.assertEqual(line(-1), -HUGE + 2)
        self.assertEqual(line(TINY), -HUGE + 2 * TINY)
        self.assertEqual(kinds(line.lower(Line([(-HUGE, 0), (HUGE, 0)])).points()),
                         kinds([(-HUGE, 0), (Exact(-HUGE, 2), 0), (0, -HUGE), (Exact(HUGE, 2), 0), (HUGE, 0)]))
        self.assertRaises(BadMoment, line, HUGE + TINY)
        self.assertRaises(BadMoment, line, -HUGE - TINY)
        self.assertRaises(BadPoint, Line, [(TINY, 0), (Exact(1, HUGE + 1), 0)])
        self.assertEqual(len(Line([(0, 0), (1, TINY), (2, 0)]).points()), 3)
        self.assertIs(line.is_below(Line([(-HUGE, HUGE), (0, -HUGE - TINY), (HUGE, HUGE)])), False)

    def test_results_can_be_passed_on(self):
        """The crossing points of crossing lines have more digits than what was passed; they may be passed again."""
        line = Line([(0, 0), (Exact(HUGE, 7), Exact(HUGE, 11)), (HUGE, TINY)])
        for step in range(1, 6):
            other = Line([(0, Exact(step, HUGE - step)), (HUGE, Exact(HUGE - step, step + 13))])
            line = line.lower(other).upper(Line([(0, -1), (HUGE, Exact(1, step))]))
            self.assertEqual(Line(line.points()), line)
            for moment, height in line.points():
                self.assertEqual(line(moment), height)

    def test_errors(self):
        book = Book(0, HUGE, 0, HUGE, [("a", [(HUGE, HUGE, TINY)])], [("read", "a", HUGE, HUGE, 1, 1)])
        self.assertRaises(BadMoment, heights, book, "a", HUGE + TINY)
        self.assertRaises(BadHeight, within, book, "a", HUGE, HUGE - TINY)
        self.assertEqual(heights(book, "a", 0), [(0, 2)])
        self.assertEqual(heights(book, "a", HUGE), [(1, 1)])


if __name__ == "__main__":
    unittest.main()
