"""Promises 17 and 18: what is a paper for a book, of papers that are made by hand, and of any objects."""

import random
import unittest

from surelevels.books import Book
from surelevels.errors import BadPart
from surelevels.exacts import Exact
from surelevels.lines import Line
from surelevels.papers import is_fit, is_paper, paper
from tests.oracle import Chains
from tests.randoms import random_book, stretch
from tests.things import as_exacts, as_lists, as_tuples, kinds, no_lists, no_numbers, small_book

HALF = Exact(1, 2)
TINY = Exact(1, 10 ** 30)

LEVELS = [("a", [(5, 2, 1), (10, 4, 3)]), ("b", [(10, 1, 2)])]
FACTS = [
    ("read", "a", 1, 2, 40, 45), ("silent", "a", 3, 4, 30, 50), ("above", "a", "b", 4, 6, -5),
    ("silent", "b", 5, 6, 20, 60), ("read", "b", 8, 8, 10, 30), ("above", "b", "a", 7, 9, 3),
    ("silent", "a", 9, 10, 70, 95),
]
# 40 at moment 2 is 39 at moment 3: a is raised to 50 there. So b is not below
# 45 at moment 4 and not below 43 at moment 5: it is raised to 60, which is 56
# at moment 8, above 30.
FIRST = ("raise", 1, [("read", 0, 2), ("run", 3)])
SECOND = ("raise", 3, [("raised", 1, 4), ("above", 2), ("run", 5)])
LAST = ("pass", 4, [("raised", 3, 6), ("run", 8)])
PAPER = [FIRST, SECOND, LAST]

RING_FACTS = [("above", "a", "b", 2, 4, 5), ("above", "b", "a", 3, 6, -4), ("read", "a", 2, 2, 50, 60)]
RING = [("ring", [("from", "a", 3), ("above", 0), ("above", 1)])]


def book(facts=()):
    return Book(0, 10, 0, 100, LEVELS, facts or FACTS)


def things():
    """Objects of many kinds."""
    return no_numbers() + [-1, 99, 10 ** 60, -HALF, "a", "b", "read", "raise", object(), Line([(0, 0), (1, 1)]),
                           [()], [[]], ((), ()), [None], [[], [], []], b"ab", "abc"]


class Made(unittest.TestCase):
    def yes(self, paper, facts=()):
        for thing in (paper, as_lists(paper), as_tuples(paper)):
            self.assertIs(is_paper(book(facts), thing), True)

    def no(self, paper, facts=()):
        for thing in (paper, as_lists(paper), as_tuples(paper)):
            self.assertIs(is_paper(book(facts), thing), False)

    def test_paper(self):
        self.yes(PAPER)
        self.assertIs(is_paper(book=book(), thing=PAPER), True)
        self.assertIs(is_fit(book()), False)

    def test_exact_moments(self):
        self.yes([("raise", 1, [("read", 0, Exact(2)), ("run", Exact(3))]), SECOND, LAST])
        self.yes([("raise", 1, [("read", 0, Exact(3, 2)), ("run", Exact(7, 2))]), SECOND, LAST])
        self.yes([("raise", 1, [("read", 0, Exact(3, 2)), ("run", HALF), ("run", Exact(10, 3))]), SECOND, LAST])

    def test_parts(self):
        self.no([])
        self.no([FIRST])
        self.no([FIRST, SECOND])
        self.no([LAST])
        self.no([SECOND, LAST])
        self.no([FIRST, LAST])
        self.no([SECOND, FIRST, LAST])
        self.no([LAST, FIRST, SECOND])
        self.no([FIRST, SECOND, LAST, LAST])
        self.no([FIRST, LAST, SECOND])
        self.no(PAPER[::-1])
        self.no([PAPER])
        self.no(LAST)

    def test_raised_twice(self):
        self.no([FIRST, FIRST, SECOND, LAST])
        self.no([FIRST, SECOND, FIRST, LAST])
        self.no([FIRST, SECOND, ("raise", 1, [("read", 0, 1), ("run", 3)]), LAST])

    def test_raises_that_nothing_uses(self):
        facts = FACTS + [("read", "a", 2, 2, 46, 47)]
        self.yes([("pass", 0, [("read", 7, 2)])], facts)
        self.yes([FIRST, ("pass", 0, [("read", 7, 2)])], facts)
        self.yes([FIRST, SECOND, ("pass", 0, [("read", 7, 2)])], facts)
        self.no([("raise", 1, [("read", 0, 2), ("run", 1)]), ("pass", 0, [("read", 7, 2)])], facts)

    def test_chains_that_end_just_at_a_mark(self):
        low = [("read", "a", 1, 2, 31, 45)] + FACTS[1:]
        self.no(PAPER, low)
        self.yes(PAPER, [("read", "a", 1, 2, 31 + TINY, 45)] + FACTS[1:])
        self.no(PAPER, FACTS[:3] + [("silent", "b", 5, 6, 43, 60)] + FACTS[4:])
        self.yes(PAPER, FACTS[:3] + [("silent", "b", 5, 6, 43 - TINY, 60)] + FACTS[4:])
        self.no(PAPER, FACTS[:4] + [("read", "b", 8, 8, 10, 56)] + FACTS[5:])
        self.yes(PAPER, FACTS[:4] + [("read", "b", 8, 8, 10, 56 - TINY)] + FACTS[5:])

    def test_other_levels_and_moments(self):
        self.no([FIRST, SECOND, ("pass", 4, [("raised", 1, 4), ("run", 8)])])
        self.no([FIRST, SECOND, ("pass", 4, [("raised", 3, 6)])])
        self.no([FIRST, SECOND, ("pass", 4, [("raised", 3, 6), ("run", 7)])])
        self.no([FIRST, SECOND, ("pass", 4, [("raised", 3, 6), ("run", 8 + TINY)])])
        self.no([FIRST, SECOND, ("pass", 0, [("raised", 3, 6), ("run", 8)])])
        self.no([FIRST, SECOND, ("pass", 3, [("raised", 3, 6), ("run", 8)])])
        self.no([FIRST, SECOND, ("pass", None, [("raised", 3, 6), ("run", 8)])])
        self.no([("raise", 3, [("read", 0, 2), ("run", 5)]), LAST])
        self.no([("raise", 1, [("read", 0, 2)]), SECOND, LAST])
        self.no([("raise", 1, [("read", 0, 2), ("run", 4 + TINY)]), SECOND, LAST])
        self.no([("raise", 1, [("read", 0, 2), ("run", 3 - TINY)]), SECOND, LAST])


class FirstSteps(unittest.TestCase):
    """Each sort of first step, in front of a chain that passes a READ fact."""

    def check(self, wanted, facts, *steps, raises=()):
        last = len(facts) - 1
        paper = [*raises, ("pass", last, list(steps))]
        for thing in (paper, as_lists(paper)):
            self.assertIs(is_paper(book(facts), thing), wanted)

    def test_bottom(self):
        facts = [("read", "a", 5, 6, -9, -1)]
        self.check(True, facts, ("bottom", "a", 5))
        self.check(True, facts, ("bottom", "a", Exact(11, 2)))
        self.check(False, facts, ("bottom", "b", 5))
        self.check(False, facts, ("bottom", "c", 5))
        self.check(False, facts, ("bottom", 0, 5))
        self.check(False, facts, ("bottom", "a", 4))
        self.check(False, facts, ("bottom", "a", True))
        self.check(False, facts, ("bottom", "a", 5, 5))
        self.check(False, facts, ("bottom", "a"))
        self.check(False, [("read", "a", 5, 6, -9, 0)], ("bottom", "a", 5))
        ends = [("read", "a", 0, 10, -9, -1)]
        for moment, wanted in ((0, True), (10, True), (-TINY, False), (10 + TINY, False), (-1, False), (11, False)):
            self.check(wanted, ends, ("bottom", "a", moment))

    def test_read(self):
        facts = [("read", "a", 1, 3, 40, 45), ("silent", "a", 1, 3, 30, 60), ("read", "a", 2, 2, 20, 39)]
        for moment in (2, Exact(2)):
            self.check(True, facts, ("read", 0, moment))
        self.check(False, facts, ("read", 1, 2))
        self.check(False, facts, ("read", 2, 2))
        for moment, wanted in ((1, True), (3, True), (1 - TINY, False), (3 + TINY, False), (0, False)):
            self.check(wanted, [facts[0], ("read", "a", 0, 10, 20, 39)], ("read", 0, moment))
        for index in (3, -1, -3, True, False, "0", None, Exact(0), 10 ** 60, [0], (0,), {}):
            self.check(False, facts, ("read", index, 2))

    def test_raised(self):
        facts = [("read", "a", 1, 1, 40, 45), ("silent", "a", 1, 3, 30, 60), ("silent", "a", 1, 3, 35, 70),
                 ("read", "a", 0, 10, 20, 55)]
        first = ("raise", 1, [("read", 0, 1)])
        second = ("raise", 2, [("read", 0, 1)])
        self.check(True, facts, ("raised", 1, 2), raises=[first])
        self.check(True, facts, ("raised", 1, 2), raises=[second, first])
        self.check(False, facts, ("raised", 1, 2))
        self.check(False, facts, ("raised", 1, 2), raises=[second])
        self.check(False, facts, ("raised", 0, 1), raises=[first])
        self.check(False, facts, ("read", 1, 2), raises=[first])
        for moment, wanted in ((1, True), (3, True), (1 - TINY, False), (3 + TINY, False)):
            self.check(wanted, facts, ("raised", 1, moment), raises=[first])
        for index in (True, -3, Exact(1), "1", None):
            self.check(False, facts, ("raised", index, 2), raises=[first])
        again = ("raise", 2, [("raised", 1, 2)])
        self.check(True, facts, ("raised", 2, 2), raises=[first, again])
        self.check(False, facts, ("raised", 2, 2), raises=[again, first])
        self.check(False, facts, ("raised", 1, 2), raises=[("raise", 1, [("raised", 1, 2)])])

    def test_from(self):
        """It starts rings alone, although its height of nought is above what is asked."""
        facts = [("read", "a", 0, 10, -9, -1)]
        self.check(False, facts, ("from", "a", 5))
        self.check(False, facts, ("from", "a", 5), ("run", 6), ("run", 5))
        silent = [("silent", "a", 0, 10, -9, -1), ("read", "a", 0, 10, -9, -1)]
        self.check(True, silent, ("bottom", "a", 5), raises=[("raise", 0, [("bottom", "a", 5)])])
        self.check(False, silent, ("bottom", "a", 5), raises=[("raise", 0, [("from", "a", 5)])])
        self.assertIs(is_paper(Book(0, 10, -50, -20, LEVELS), [("pass", None, [("from", "a", 5)])]), False)

    def test_others(self):
        facts = [("read", "a", 0, 10, -9, -1)]
        for step in (("top", "a", 5), ("run", 5), ("above", 0), ("run", "a", 5), ("bottom", "a", 5, None), (),
                     ("BOTTOM", "a", 5), (None, "a", 5), ("bottom",), "bot", "bottom", {0: "bottom", 1: "a", 2: 5}):
            self.check(False, facts, step)
        self.check(False, facts)


class FurtherSteps(unittest.TestCase):
    def check(self, wanted, level, moment, height, *steps):
        """Whether a chain from 40 of a at moment 4 leads to just this level, moment and height."""
        facts = [("read", "a", 4, 4, 40, 45), ("above", "a", "b", 3, 6, 5), ("above", "b", "a", 4, 5, Exact(-1, 3)),
                 ("silent", "a", 0, 10, 1, 2), ("read", level, moment, moment, 0, height)]
        chain = [("read", 0, 4), *steps]
        self.assertIs(is_paper(book(facts), [("pass", 4, chain)]), False)
        facts[4] = ("read", level, moment, moment, 0, height - TINY)
        self.assertIs(is_paper(book(facts), [("pass", 4, chain)]), wanted)
        chain = [as_exacts(step) if isinstance(step, tuple) and step[:1] == ("run",) else step for step in chain]
        self.assertIs(is_paper(book(facts), (["pass", 4, chain],)), wanted)

    def test_runs_to_later_moments(self):
        self.check(True, "a", 5, 39, ("run", 5))
        self.check(True, "a", 6, 36, ("run", 6))
        self.check(True, "a", 10, 24, ("run", 10))
        self.check(True, "a", 10, 24, ("run", 5), ("run", Exact(22, 3)), ("run", 10))
        self.check(True, "a", Exact(16, 3), 38, ("run", Exact(16, 3)))

    def test_runs_to_earlier_moments(self):
        self.check(True, "a", 3, 38, ("run", 3))
        self.check(True, "a", 0, 32, ("run", 0))
        self.check(True, "a", 0, 32, ("run", HALF), ("run", 0))
        self.check(True, "a", 4, 37, ("run", 5), ("run", 4))
        self.check(True, "a", 4, 23, ("run", 7), ("run", 4))

    def test_no_runs(self):
        for moment in (4, Exact(4), -1, 11, -TINY, 10 + TINY, *no_numbers()):
            for level, at, height in (("a", 4, 0), ("a", 5, 0), ("a", 0, 0)):
                self.check(False, level, at, height + 5, ("run", moment), ("run", at + TINY), ("run", at))
        self.check(False, "a", 5, 39, ("run", 5, 5))
        self.check(False, "a", 5, 39, ("run",))
        self.check(False, "a", 5, 39, ("run", "a", 5))

    def test_above(self):
        self.check(True, "b", 4, 45, ("above", 1))
        self.check(True, "a", 4, 45 - Exact(1, 3), ("above", 1), ("above", 2))
        self.check(True, "b", 5, 43, ("above", 1), ("run", 5))
        self.check(True, "b", 3, 43, ("run", 3), ("above", 1))
        self.check(True, "b", 6, 41, ("run", 6), ("above", 1))
        self.check(False, "b", 3 - TINY, 20, ("run", 3 - TINY), ("above", 1))
        self.check(False, "b", 6 + TINY, 20, ("run", 6 + TINY), ("above", 1))
        self.check(False, "a", 4, 40, ("above", 2))
        self.check(False, "b", 4, 45, ("above", 1), ("above", 1))
        self.check(False, "b", 4, 45, ("above", 2))
        for index in (0, 3, 4, 5, -4, True, Exact(1), "1", None, [1], (1,)):
            self.check(False, "b", 4, 40, ("above", index))
        self.check(False, "b", 4, 45, ("above", 1, 4))
        self.check(False, "b", 4, 45, ("above",))

    def test_true_and_false_are_no_indices(self):
        levels = [("a", [(10, 1, 1)]), ("b", [(10, 1, 1)])]
        facts = [("above", "a", "b", 0, 10, 1), ("above", "b", "a", 0, 10, 1)]
        ring = Book(0, 10, 0, 100, levels, facts)
        self.assertIs(is_paper(ring, [("ring", [("from", "a", 2), ("above", 0), ("above", 1)])]), True)
        self.assertIs(is_paper(ring, [("ring", [("from", "a", 2), ("above", False), ("above", 1)])]), False)
        self.assertIs(is_paper(ring, [("ring", [("from", "a", 2), ("above", 0), ("above", True)])]), False)
        facts = [("read", "a", 0, 0, 5, 5), ("read", "a", 1, 1, 0, 1)]
        reads = Book(0, 10, 0, 100, levels, facts)
        self.assertIs(is_paper(reads, [("pass", 1, [("read", 0, 0), ("run", 1)])]), True)
        self.assertIs(is_paper(reads, [("pass", True, [("read", 0, 0), ("run", 1)])]), False)
        self.assertIs(is_paper(reads, [("pass", 1, [("read", False, 0), ("run", 1)])]), False)
        self.assertIs(is_paper(reads, [("pass", 1, [("read", 0, False), ("run", 1)])]), False)
        self.assertIs(is_paper(reads, [("pass", 1, [("read", 0, 0), ("run", True)])]), False)

    def test_other_steps(self):
        for step in (("fall", 5), ("bottom", "a", 4), ("read", 0, 4), ("from", "a", 4), ("read", 0), (), ("", 5),
                     ("run", 5, None), "ru", (None, 5), ("RUN", 5), ["above", "b"], 5, None, {"run": 5}):
            self.check(False, "a", 4, 40, step)
            self.check(False, "a", 5, 30, step, ("run", 5))
            self.check(False, "a", 4, 30, ("run", 5), ("run", 4), step)


class Lasts(unittest.TestCase):
    def test_top(self):
        facts = [("read", "a", 1, 2, 90, 120), ("above", "a", "b", 2, 2, 10), ("above", "a", "b", 1, 1, 10 + TINY)]
        self.assertIs(is_paper(book(facts), [("pass", None, [("read", 0, 2), ("above", 1)])]), False)
        self.assertIs(is_paper(book(facts), [("pass", None, [("read", 0, 1), ("above", 2)])]), True)
        self.assertIs(is_paper(book(facts), [["pass", None, [["read", 0, 1], ["above", 2]]]]), True)
        for thing in (False, True, 0, "", [], "None", -1, Exact(0)):
            self.assertIs(is_paper(book(facts), [("pass", thing, [("read", 0, 1), ("above", 2)])]), False)
        high = [("read", "a", 1, 2, 101, 120)]
        self.assertIs(is_paper(book(high), [("pass", None, [("read", 0, 2)])]), True)
        self.assertIs(is_paper(book([("read", "a", 1, 2, 100, 120)]), [("pass", None, [("read", 0, 2)])]), False)

    def test_ring(self):
        rows = [
            (RING, True),
            ([("ring", [("from", "a", 4), ("above", 0), ("above", 1)])], True),
            ([("ring", [("from", "b", 3), ("above", 1), ("above", 0)])], True),
            ([["ring", [["from", "a", Exact(10, 3)], ["above", 0], ["above", 1]]]], True),
            ([("ring", [("from", "a", 3), ("above", 0), ("above", 1), ("above", 0), ("above", 1)])], True),
            ([("ring", [("from", "a", 3), ("above", 0)])], False),
            ([("ring", [("from", "a", 3), ("above", 1), ("above", 0)])], False),
            ([("ring", [("from", "a", 5), ("above", 0), ("above", 1)])], False),
            ([("ring", [("from", "a", 2), ("above", 0), ("above", 1)])], False),
            ([("ring", [("from", "c", 3), ("above", 0), ("above", 1)])], False),
            ([("ring", [("from", "a", 3)])], False),
            ([("ring", [])], False),
            ([("ring", None, RING[0][1])], False),
            ([("ring", 0, RING[0][1])], False),
            ([("ring", RING[0][1], None)], False),
            ([("ring",)], False),
            ([("pass", RING[0][1])], False),
            ([("pass", None, RING[0][1])], False),
            ([("pass", 2, RING[0][1])], False),
            ([("ring", [("bottom", "a", 3), ("above", 0), ("above", 1)])], False),
            ([("ring", [("read", 2, 2), ("run", 3), ("above", 0), ("above", 1), ("run", 2)])], False),
            (RING + RING, False),
        ]
        for paper, wanted in rows:
            with self.subTest(paper=paper):
                self.assertIs(is_paper(book(RING_FACTS), paper), wanted)
                self.assertIs(is_paper(book(RING_FACTS), as_tuples(paper)), wanted)

    def test_ring_over_several_moments(self):
        """From moment 2 to moment 5 b falls by 6 at most, from 5 to 2 a rises by 6 at most."""
        chain = [("from", "a", 2), ("above", 0), ("run", 5), ("above", 1), ("run", 2)]
        for gap, wanted in ((8, False), (8 + TINY, True)):
            facts = [("above", "a", "b", 2, 2, 4), ("above", "b", "a", 5, 5, gap)]
            self.assertIs(is_paper(book(facts), [("ring", chain)]), wanted)
            self.assertIs(is_paper(book(facts), [("ring", chain[:-1])]), False)
            self.assertIs(is_paper(book(facts), [("ring", chain[:-1] + [("run", 3)])]), False)
            self.assertIs(is_paper(book(facts), [("ring", chain[:-1] + [("run", 3), ("run", 2)])]), wanted)

    def test_ring_that_starts_from_nought_only(self):
        facts = [("above", "a", "b", 2, 2, 4), ("above", "b", "a", 2, 2, -4)]
        self.assertIs(is_paper(book(facts), [("ring", [("from", "a", 2), ("above", 0), ("above", 1)])]), False)

    def test_raises_ahead_of_a_ring(self):
        silent = ("silent", "a", 2, 2, 49, 55)
        raised = ("raise", 3, [("read", 2, 2)])
        self.assertIs(is_paper(book(RING_FACTS + [silent]), [raised] + RING), True)
        self.assertIs(is_paper(book(RING_FACTS + [silent]), RING + [raised]), False)
        self.assertIs(is_paper(book(RING_FACTS + [silent]), [raised, raised] + RING), False)
        self.assertIs(is_paper(book(RING_FACTS + [silent]), [("raise", 3, RING[0][1])] + RING), False)


class AnyObjects(unittest.TestCase):
    def test_any_objects(self):
        for thing in no_lists() + things() + [book(), BadPart(PAPER), {0: LAST}, iter(PAPER)]:
            self.assertIs(is_paper(book(), thing), False)
            self.assertIs(is_paper(small_book(), thing), False)
            self.assertIs(is_paper(book(), [thing]), False)
            self.assertIs(is_paper(book(), [FIRST, SECOND, thing]), False)
            self.assertIs(is_paper(book(), [thing, FIRST, SECOND, LAST]), False)
            self.assertIs(is_paper(book(), [FIRST, thing, SECOND, LAST]), False)
            self.assertIs(is_paper(book(), [FIRST, SECOND, LAST, thing]), False)

    def replaced(self, thing, new):
        """All things that a thing becomes with one of its parts, at any depth, replaced."""
        for at, part in enumerate(thing):
            yield [*thing[:at], new, *thing[at + 1:]]
            if isinstance(part, (list, tuple)):
                for other in self.replaced(part, new):
                    yield [*thing[:at], other, *thing[at + 1:]]

    def test_any_objects_at_every_depth(self):
        many = 0
        for paper, facts in ((PAPER, FACTS), (RING, RING_FACTS)):
            for new in things():
                for thing in self.replaced(paper, new):
                    if kinds(as_lists(thing)) != kinds(as_lists(paper)):
                        many += 1
                        self.assertIs(is_paper(book(facts), thing), False, thing)
        self.assertGreater(many, 1000)

    def dropped(self, thing):
        """All things that a thing becomes with one of its parts, at any depth, left out or doubled."""
        for at, part in enumerate(thing):
            yield [*thing[:at], *thing[at + 1:]]
            yield [*thing[:at], part, part, *thing[at + 1:]]
            if isinstance(part, (list, tuple)):
                for other in self.dropped(part):
                    yield [*thing[:at], other, *thing[at + 1:]]

    def test_parts_left_out_or_doubled(self):
        for paper, facts in ((PAPER, FACTS), (RING, RING_FACTS)):
            for thing in self.dropped(paper):
                self.assertIs(is_paper(book(facts), thing), False, thing)

    def test_nothing_is_modified(self):
        told, paper = book(), as_lists(PAPER)
        is_paper(told, paper)
        is_paper(told, paper)
        self.assertEqual(paper, as_lists(PAPER))
        self.assertEqual(told, book())


class Randoms(unittest.TestCase):
    def test_random_papers(self):
        """Whatever is put together: another way to read it agrees, and a book that a history fits has no paper."""
        source = random.Random(18)
        seen = {True: 0, False: 0}
        for number in range(200):
            told = random_book(source, silents=3, facts=6)
            for _ in range(60):
                thing = self.paper(told, source) if is_fit(told) else self.altered(paper(told), told, source)
                wanted = self.shows(told, thing)
                seen[wanted] += 1
                self.assertIs(is_paper(told, thing), wanted)
                self.assertFalse(wanted and is_fit(told))
        self.assertGreater(min(seen.values()), 500)

    def altered(self, parts, told, source):
        """A paper with something random about one of its chains, or without one of its parts."""
        if source.random() < 0.1:
            parts.pop(source.randrange(len(parts)))
        at = source.randrange(len(parts) or 1)
        for part in parts[at:at + 1]:
            chain = part[-1]
            step = source.randrange(len(chain))
            if source.random() < 0.5:
                chain.insert(step + 1, ("run", stretch(source, told.frame()[1])[0]))
            elif source.random() < 0.5:
                chain[step] = (*chain[step][:-1], stretch(source, told.frame()[1])[0])
            elif source.random() < 0.5:
                chain[step:] = self.chain(told, source)[1:]
            else:
                chain[0] = self.chain(told, source)[0]
        return parts

    def shows(self, told, paper):
        try:
            Chains(told).shows(paper)
            return True
        except (AssertionError, ValueError, TypeError, IndexError):
            return False

    def paper(self, fitting, source):
        facts = fitting.facts()
        silents = [index for index, fact in enumerate(facts) if fact[0] == "silent"]
        parts = [("raise", index, self.chain(fitting, source)) for index in silents if source.random() < 0.5]
        reads = [index for index, fact in enumerate(facts) if fact[0] == "read"] + [None]
        if source.random() < 0.3:
            return parts + [("ring", self.chain(fitting, source, "from"))]
        return parts + [("pass", source.choice(reads), self.chain(fitting, source))]

    def chain(self, fitting, source, kind=None):
        facts = fitting.facts()
        end = fitting.frame()[1]
        found = [("from", source.choice(fitting.names()), stretch(source, end)[0])]
        if kind is None:
            found = [("bottom", name, stretch(source, end)[0]) for name in fitting.names()]
            for index, fact in enumerate(facts):
                if fact[0] != "above":
                    found.append(({"read": "read", "silent": "raised"}[fact[0]], index, source.choice(fact[2:4])))
        steps = [source.choice(found)]
        for _ in range(source.randint(0, 4)):
            aboves = [index for index, fact in enumerate(facts) if fact[0] == "above"]
            moments = [moment for fact in facts for moment in (fact[3:5] if fact[0] == "above" else fact[2:4])]
            if aboves and source.random() < 0.6:
                steps.append(("above", source.choice(aboves)))
            else:
                steps.append(("run", source.choice(moments)))
        return steps


if __name__ == "__main__":
    unittest.main()
