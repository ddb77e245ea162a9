"""Other ways to tell of the same levels, and how all answers change with them."""

import unittest

from surelevels.asks import differences, heights, moments, passed, within
from surelevels.books import Book
from surelevels.errors import HasHistory, Unfit
from surelevels.exacts import Exact
from surelevels.follow import follows, needless
from surelevels.gaps import greatest_gap, least_factor, surely_equal
from surelevels.lines import Line, fits
from surelevels.live import Gauges
from surelevels.papers import highest, is_fit, is_paper, lowest, paper
from tests.oracle import Chains, stretch_of
from tests.randoms import number, random_book, stretch
from tests.things import kinds


def mapped(number, factor, offset=0):
    """A number times a factor, and an offset; as a result."""
    found = Exact(1) * number * factor + offset
    return found.over if found.under == 1 else found


class Change:
    """Other units of time and of height, which may be below nought, other names, other orders of levels and facts.

    Time and height are pairs of a factor and an offset; names are a dict; levels and facts tell for each new place
    which old one stands there; cut is a share at which the first rate of each level with less than three is cut in two.
    """

    def __init__(self, time=(1, 0), height=(1, 0), names=None, levels=None, facts=None, cut=None):
        self.scales = (time, height)
        self.names, self.levels, self.facts, self.cut = names or {}, levels, facts, cut
        self.is_turned = time[0] < 0
        self.is_mirrored = height[0] < 0

    def time(self, moment):
        return mapped(moment, *self.scales[0])

    def height(self, height):
        return mapped(height, *self.scales[1])

    def gap(self, gap):
        """A difference of heights, the levels being told of in the order in which the one that was lower still is."""
        return mapped(gap, -self.scales[1][0] if self.is_mirrored else self.scales[1][0])

    def name(self, name):
        return self.names.get(name, name)

    def pair(self, one, other):
        """Two names; turned about where heights are upside down."""
        return (self.name(other), self.name(one)) if self.is_mirrored else (self.name(one), self.name(other))

    def speed(self, rate):
        factor = Exact(1) * self.scales[1][0] * Exact(1).by(self.scales[0][0])
        return mapped(rate, -factor if factor < 0 else factor)

    def times(self, rows):
        found = [tuple(self.time(moment) for moment in row) for row in rows]
        return [row[::-1] for row in found[::-1]] if self.is_turned else found

    def heights(self, rows):
        found = [tuple(self.height(height) for height in row) for row in rows]
        return [row[::-1] for row in found[::-1]] if self.is_mirrored else found

    def gaps(self, rows):
        return [tuple(self.gap(gap) for gap in row) for row in rows]

    def in_order(self, things, order):
        return [things[at] for at in order] if order else list(things)

    def rates(self, start, rates):
        rows = []
        since = start
        for until, rise, fall in rates:
            rows.append((since, until, rise, fall))
            since = until
        if self.cut is not None and len(rows) < 3:
            since, until, rise, fall = rows[0]
            middle = since + (until - since) * self.cut
            rows[:1] = [(since, middle, rise, fall), (middle, until, rise, fall)]
        found = []
        for since, until, rise, fall in rows[::-1] if self.is_turned else rows:
            if self.is_turned != self.is_mirrored:
                rise, fall = fall, rise
            found.append((self.time(since if self.is_turned else until), self.speed(rise), self.speed(fall)))
        return found

    def fact(self, fact):
        [span] = self.times([stretch_of(fact)])
        if fact[0] == "above":
            return ("above", *self.pair(*fact[1:3]), *span, self.gap(fact[5]))
        [marks] = self.heights([fact[4:]])
        return (fact[0], self.name(fact[1]), *span, *marks)

    def book(self, book):
        start, end, bottom, top = book.frame()
        levels = [(self.name(name), self.rates(start, rates)) for name, rates in book.levels()]
        facts = [self.fact(fact) for fact in book.facts()]
        return Book(*self.times([(start, end)])[0], *self.heights([(bottom, top)])[0],
                    self.in_order(levels, self.levels), self.in_order(facts, self.facts))

    def history(self, lines):
        found = [[(self.time(moment), self.height(height)) for moment, height in line.points()] for line in lines]
        return self.in_order([points[::-1] if self.is_turned else points for points in found], self.levels)

    def index(self, index):
        return self.facts.index(index) if self.facts and index is not None else index

    def step(self, step):
        kind, *rest = step
        if kind == "above":
            return (kind, self.index(rest[0]))
        if kind == "run":
            return (kind, self.time(rest[0]))
        thing = self.index(rest[0]) if kind in ("read", "raised") else self.name(rest[0])
        return (kind, thing, self.time(rest[1]))

    def paper(self, parts):
        """The paper for the changed book; not where heights are upside down, as chains lead upwards."""
        return [(part[0], *[self.index(index) for index in part[1:-1]], [self.step(step) for step in part[-1]])
                for part in parts]


class Changed(unittest.TestCase):
    """Asserts that the answers for a changed book are the changed answers."""

    def same(self, result, wanted):
        self.assertEqual(kinds(result), kinds(wanted))

    def check(self, small, change, source):
        """Asks all there is to ask; tells whether a history fits."""
        large = change.book(small)
        is_good = is_fit(small)
        self.assertIs(is_fit(large), is_good)
        self.same(least_factor(large), least_factor(small))
        self.same(needless(large), sorted(change.index(index) for index in needless(small)))
        for fact in self.asked_facts(small, source):
            self.assertIs(follows(large, change.fact(fact)), follows(small, fact))
            if len(small) < 8:
                self.assertIs(Gauges(large).add(change.fact(fact)), Gauges(small).add(fact))
        if is_good:
            self.check_histories(small, large, change)
            self.check_level(small, large, change, source)
            self.check_pairs(small, large, change, source)
        else:
            self.check_unfit(small, large, change)
        return is_good

    def asked_facts(self, small, source):
        """Facts of another book of the same kind, and some of the book itself."""
        found = [fact for fact in small if fact[0] != "above"][:2]
        for fact in random_book(source, silents=3, facts=5):
            if fact[0] != "above" and fact[1] in small.names() and fact[3] <= small.frame()[1]:
                found.append(fact)
        return found

    def check_histories(self, small, large, change):
        low, high = lowest(small), highest(small)
        wanted = [change.history(low), change.history(high)]
        found = [lowest(large), highest(large)]
        self.same([[line.points() for line in lines] for lines in (found[::-1] if change.is_mirrored else found)], wanted)
        for lines in found:
            self.assertIs(fits(large, lines), True)
        with self.assertRaises(HasHistory):
            paper(large)
        # A history of heights between the two need not fit, but does so in both books or in neither.
        middle = [[(moment, (line(moment) + line.upper(other)(moment)) * Exact(1, 2)) for moment, height in line.points()]
                  for line, other in zip(low, high)]
        self.assertIs(fits(large, [Line(points) for points in change.history([Line(points) for points in middle])]),
                      fits(small, [Line(points) for points in middle]))

    def check_level(self, small, large, change, source):
        moment = number(source, 0, small.frame()[1], (1, 2, 3, 7))
        low = number(source, 0, 8)
        high = low + number(source, 0, 4)
        [marks] = change.heights([(low, high)])
        for name in small.names():
            other = change.name(name)
            self.same(heights(large, other, change.time(moment)), change.heights(heights(small, name, moment)))
            self.same(moments(large, other, change.height(low)), change.times(moments(small, name, low)))
            sure, possible = within(small, name, low, high)
            self.same(within(large, other, *marks), (change.times(sure), change.times(possible)))
            wanted = passed(small, name)
            self.same(passed(large, other), wanted and change.heights([wanted])[0])

    def check_pairs(self, small, large, change, source):
        moment = number(source, 0, small.frame()[1], (1, 2, 3, 7))
        span = stretch(source, small.frame()[1])
        [other_span] = change.times([span])
        for one in small.names():
            for other in small.names():
                if one != other:
                    pair = change.pair(one, other)
                    self.same(differences(large, *pair, change.time(moment)),
                              change.gaps(differences(small, one, other, moment)))
                    self.assertIs(surely_equal(large, *pair, *other_span), surely_equal(small, one, other, *span))
                    gap, history = greatest_gap(small, one, other, *span)
                    other_gap, other_history = greatest_gap(large, *pair, *other_span)
                    self.same(other_gap, change.gap(gap))
                    if change.is_mirrored and len(small) < 8:
                        history = highest(small.further([("above", one, other, *span, gap)]))
                    if not change.is_mirrored or len(small) < 8:
                        self.same([line.points() for line in other_history], change.history(history))

    def check_unfit(self, small, large, change):
        found = paper(large)
        self.assertIs(is_paper(large, found), True)
        Chains(large).shows(found)
        if not change.is_mirrored:
            self.assertIs(is_paper(large, change.paper(paper(small))), True)
            self.assertIs(is_paper(large, change.paper(paper(small))[:-1]), False)
        name = large.names()[0]
        start = large.frame()[0]
        for call in (lambda: lowest(large), lambda: highest(large), lambda: heights(large, name, start),
                     lambda: moments(large, name, 0), lambda: within(large, name, 0, 1), lambda: passed(large, name)):
            self.assertRaises(Unfit, call)
        for other in large.names()[1:]:
            self.assertRaises(Unfit, differences, large, name, other, start)
            self.assertRaises(Unfit, greatest_gap, large, name, other, start, start)
            self.assertRaises(Unfit, surely_equal, large, name, other, start, start)
