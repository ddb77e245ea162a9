"""Promises 20 to 25: heights, moments, within, passed and differences, and their errors."""

import random
import unittest
from fractions import Fraction

from surelevels.asks import differences, heights, moments, passed, within
from surelevels.books import Book
from surelevels.errors import BadHeight, BadMoment, Unfit, UnknownLevel
from surelevels.exacts import Exact
from surelevels.papers import is_fit
from tests.oracle import Oracle, exact, fraction, fractions
from tests.randoms import number, random_book
from tests.things import (as_exacts, as_lists, check_error, kinds, no_moments, no_names, no_numbers, quick_book,
                          scramble, small_book, three_levels, unfit_book)

HALF = Exact(1, 2)
TINY = Exact(1, 10 ** 30)


class Asks(unittest.TestCase):
    def same(self, result, wanted):
        self.assertEqual(kinds(result), kinds(wanted))


class Heights(Asks):
    def test_one_stretch(self):
        book = small_book([("read", "tank", 5, 5, 50, 60)])
        self.same(heights(book, "tank", 5), [(50, 60)])
        self.same(heights(book, "tank", 0), [(40, 65)])
        self.same(heights(book, "tank", 10), [(45, 70)])
        self.same(heights(book, "tank", Exact(16, 3)), [(Exact(149, 3), Exact(182, 3))])
        self.same(heights(book=book, name="tank", moment=Exact(5)), [(50, 60)])
        self.same(heights(small_book(), "tank", 3), [(0, 100)])

    def test_one_height(self):
        self.same(heights(small_book([("read", "tank", 5, 5, HALF, HALF)]), "tank", 5), [(HALF, HALF)])

    def test_silent_facts_leave_holes(self):
        book = quick_book([("silent", "tank", 2, 8, 40, 50)])
        self.same(heights(book, "tank", 5), [(0, 40), (50, 100)])
        self.same(heights(book, "tank", 2), [(0, 40), (50, 100)])
        self.same(heights(book, "tank", 1), [(0, 100)])
        self.same(heights(book, "tank", 2 - Exact(1, 1000)), [(0, 41), (49, 100)])
        self.same(heights(book, "tank", 2 - Exact(1, 200)), [(0, 100)])

    def test_stretches_that_touch_are_one(self):
        touching = [("silent", "tank", 5, 5, 40, 50), ("silent", "tank", 6, 6, 40, 50)]
        self.same(heights(quick_book(touching), "tank", 5), [(0, 40), (50, 100)])
        # Falling by 5 from 50 and rising by 5 from 40 in between both get to 45.
        slow = Book(0, 10, 0, 100, [("tank", [(10, 1, 1)])], [("silent", "tank", 0, 0, 40, 50)])
        self.same(heights(slow, "tank", 5), [(0, 100)])
        self.same(heights(slow, "tank", 5 - HALF), [(0, 45 - HALF), (45 + HALF, 100)])
        self.same(heights(slow, "tank", 6), [(0, 100)])

    def test_single_heights_between_silent_facts(self):
        book = quick_book([("silent", "tank", 5, 5, -1, 40), ("silent", "tank", 5, 5, 40, 60),
                           ("silent", "tank", 5, 5, 60, 100)])
        self.same(heights(book, "tank", 5), [(40, 40), (60, 60), (100, 100)])

    def test_four_silent_facts(self):
        book = quick_book([("silent", "tank", 0, 6, 60, 65), ("silent", "tank", 5, 9, 10, 20),
                           ("silent", "tank", 5, 5, 40, 50), ("silent", "tank", 4, 6, 25, 30)])
        self.same(heights(book, "tank", 5), [(0, 10), (20, 25), (30, 40), (50, 60), (65, 100)])
        self.same(heights(book, "tank", 9), [(0, 10), (20, 100)])
        self.same(heights(book, "tank", 3), [(0, 60), (65, 100)])

    def test_silent_facts_that_contradict_readings(self):
        facts = [("silent", "tank", 2, 8, 51, 55), ("read", "tank", 0, 0, 50, 50)]
        self.same(heights(small_book(facts), "tank", 2), [(48, 51)])
        facts[1] = ("read", "tank", 0, 0, 51, 51)
        self.same(heights(small_book(facts), "tank", 2), [(49, 51), (55, 55)])

    def test_sides_of_silent_facts_that_are_beyond_the_frame(self):
        for a, b in ((0, 0), (10, 10), (4, 6), (0, 10)):
            self.same(heights(quick_book([("silent", "tank", a, b, 95, 105)]), "tank", b), [(0, 95)])
            self.same(heights(quick_book([("silent", "tank", a, b, -5, 5)]), "tank", a), [(5, 100)])
        for name in ("tank", "b", "c"):
            book = three_levels([("silent", name, 10, 10, 95, 105), ("silent", name, 0, 0, -5, 5)])
            self.same(heights(book, name, 10), [(0, 95)])
            self.same(heights(book, name, 0), [(5, 100)])

    def test_levels_with_the_names_of_facts_and_steps(self):
        rates = [(10, 1, 1)]
        book = Book(0, 10, 0, 100, [("above", rates), ("silent", rates), ("read", rates)],
                    [("above", "silent", "read", 5, 5, 10), ("silent", "above", 5, 5, 40, 50),
                     ("read", "silent", 5, 5, 60, 70), ("above", "read", "above", 5, 5, -50)])
        self.same(heights(book, "above", 5), [(20, 40), (50, 100)])
        self.same(heights(book, "read", 5), [(70, 100)])
        self.same(heights(book, "silent", 5), [(60, 70)])
        self.same(differences(book, "silent", "read", 5), [(10, 40)])

    def test_silent_facts_of_other_levels(self):
        book = three_levels([("silent", "b", 5, 5, 40, 50), ("above", "tank", "b", 5, 5, 0),
                             ("read", "tank", 5, 5, 30, 90), ("above", "b", "tank", 5, 5, 0)])
        self.same(heights(book, "tank", 5), [(30, 40), (50, 90)])
        self.same(heights(book, "tank", 4), [(29, 41), (49, 91)])
        self.same(heights(book, "c", 5), [(0, 100)])


class Moments(Asks):
    def test_reach_of_a_reading(self):
        book = small_book([("read", "tank", 5, 5, 50, 60)])
        self.same(moments(book, "tank", 55), [(0, 10)])
        self.same(moments(book, "tank", 64), [(0, 1), (7, 10)])
        self.same(moments(book, "tank", 65), [(0, 0), (Exact(15, 2), 10)])
        self.same(moments(book, "tank", 45), [(0, Exact(5, 2)), (10, 10)])
        self.same(moments(book, "tank", 70), [(10, 10)])
        self.same(moments(book, "tank", 71), [])
        self.same(moments(book, "tank", 39), [])
        self.same(moments(book=book, name="tank", height=Exact(121, 2)), [(0, Exact(9, 2)), (Exact(21, 4), 10)])

    def test_single_moments(self):
        book = small_book([("read", "tank", 5, 5, 50, 50), ("read", "tank", 0, 10, 50, 60)])
        self.same(moments(book, "tank", 50), [(0, 10)])
        book = small_book([("read", "tank", 3, 3, 50, 50), ("read", "tank", 6, 6, 56, 56)])
        self.same(moments(book, "tank", 53), [(0, 0), (Exact(9, 2), Exact(9, 2)), (9, 10)])
        self.same(moments(book, "tank", 50), [(0, 3)])
        self.same(moments(book, "tank", Exact(161, 3)), [(Exact(29, 6), Exact(29, 6)), (Exact(25, 3), 10)])

    def test_heights_beyond_the_frame(self):
        for height in (-1, 101, -TINY, 100 + TINY, 10 ** 60 - 1, -(10 ** 60 - 1)):
            self.same(moments(small_book(), "tank", height), [])
        self.same(moments(small_book(), "tank", 0), [(0, 10)])
        self.same(moments(small_book(), "tank", 100), [(0, 10)])

    def test_silent_facts(self):
        book = quick_book([("silent", "tank", 2, 4, 40, 50), ("silent", "tank", 4, 7, 45, 60),
                           ("silent", "tank", 6, 8, 42, 48)])
        self.same(moments(book, "tank", 40), [(0, 10)])
        self.same(moments(book, "tank", 45), [(0, 2 - Exact(1, 200)), (4 + Exact(1, 200), 6 - Exact(3, 1000)),
                                              (8 + Exact(3, 1000), 10)])
        self.same(moments(book, "tank", 50), [(0, 4 - Exact(1, 100)), (7 + Exact(1, 100), 10)])
        self.same(moments(book, "tank", 55), [(0, 4 - Exact(1, 200)), (7 + Exact(1, 200), 10)])

    def test_silent_facts_at_one_moment(self):
        book = Book(0, 10, 0, 100, [("tank", [(10, 1, 1)])], [("silent", "tank", 5, 5, 40, 50)])
        self.same(moments(book, "tank", 45), [(0, 0), (10, 10)])
        self.same(moments(book, "tank", 41), [(0, 4), (6, 10)])
        self.same(moments(book, "tank", 40), [(0, 10)])

    def test_rising_and_falling(self):
        """A zigzag that is known at all moments: each height is there at single moments."""
        facts = [("read", "tank", at, at, 50 + 4 * (at & 1), 50 + 4 * (at & 1)) for at in range(5)]
        book = Book(0, 4, 0, 100, [("tank", [(4, 4, 4)])], facts)
        self.same(moments(book, "tank", 51), [(at, at) for at in (Exact(1, 4), Exact(7, 4), Exact(9, 4), Exact(15, 4))])
        self.same(moments(book, "tank", 50), [(0, 0), (2, 2), (4, 4)])
        self.same(moments(book, "tank", 54), [(1, 1), (3, 3)])
        self.same(moments(book, "tank", 55), [])


class Within(Asks):
    def test_pair(self):
        book = small_book([("read", "tank", 5, 5, 50, 60)])
        self.assertIs(type(within(book, "tank", 50, 60)), tuple)
        self.same(within(book, "tank", 50, 60), ([(5, 5)], [(0, 10)]))
        self.same(within(book, "tank", 48, 62), ([(4, 6)], [(0, 10)]))
        self.same(within(book, "tank", 45, 61), ([(4, Exact(11, 2))], [(0, 10)]))
        self.same(within(book, "tank", 0, 100), ([(0, 10)], [(0, 10)]))
        self.same(within(book, "tank", 64, 100), ([], [(0, 1), (7, 10)]))
        self.same(within(book, "tank", 70, 200), ([], [(10, 10)]))
        self.same(within(book=book, name="tank", low=71, high=Exact(143, 2)), ([], []))

    def test_zones_of_one_height(self):
        book = small_book([("read", "tank", 3, 3, 50, 50), ("read", "tank", 6, 6, 56, 56)])
        self.same(within(book, "tank", 53, 53), ([(Exact(9, 2), Exact(9, 2))],
                                                 [(0, 0), (Exact(9, 2), Exact(9, 2)), (9, 10)]))
        self.same(within(book, "tank", 50, 50), ([(3, 3)], [(0, 3)]))
        self.same(within(book, "tank", 56, 56), ([(6, 6)], moments(book, "tank", 56)))

    def test_sure_in_several_stretches(self):
        facts = [("read", "tank", 0, 0, 50, 50), ("read", "tank", 10, 10, 50, 50)]
        book = small_book(facts)
        self.same(within(book, "tank", 47, 56), ([(0, 3), (Exact(17, 2), 10)], [(0, 10)]))
        self.same(within(book, "tank", 43, 56), ([(0, 3), (4, 10)], [(0, 10)]))
        self.same(within(book, "tank", 43, 57), ([(0, 10)], [(0, 10)]))
        self.same(within(book, "tank", 50, 50), ([(0, 0), (10, 10)], [(0, 10)]))

    def test_sure_beside_silent_facts(self):
        """What is sure counts holes for nothing: it is told by the lowest and the highest line."""
        book = quick_book([("silent", "tank", 2, 8, 40, 50), ("read", "tank", 0, 10, 30, 60)])
        self.same(within(book, "tank", 30, 60), ([(0, 10)], [(0, 10)]))
        self.same(within(book, "tank", 30, 59), ([], [(0, 10)]))
        self.same(within(book, "tank", 44, 46), ([], [(0, 2 - Exact(1, 250)), (8 + Exact(1, 250), 10)]))

    def test_silent_fact_decided(self):
        book = small_book([("silent", "tank", 2, 8, 40, 50), ("read", "tank", 5, 5, 45, 70)])
        self.same(within(book, "tank", 50, 100)[0], [(2, 8)])
        self.same(within(book, "tank", 49, 100)[0], [(Exact(3, 2), 9)])


class Passed(Asks):
    def test_heights_that_are_passed(self):
        rows = [
            ([("read", "tank", 2, 2, 50, 50), ("read", "tank", 7, 7, 55, 55)], (50, 55)),
            ([("read", "tank", 2, 2, 50, 52), ("read", "tank", 7, 7, 55, 57)], (52, 55)),
            ([("read", "tank", 2, 2, 50, 52), ("read", "tank", 7, 7, 52, 57)], (52, 52)),
            ([("read", "tank", 2, 2, 50, 52), ("read", "tank", 7, 7, 51, 57)], None),
            ([("read", "tank", 2, 2, HALF, HALF)], (HALF, HALF)),
            ([("read", "tank", 9, 9, 60, 60), ("read", "tank", 3, 3, 65, 70), ("read", "tank", 0, 0, 63, 90)],
             (60, 65)),
            ([("silent", "tank", 2, 8, 40, 50), ("read", "tank", 5, 5, 45, 70)], None),
            ([], None),
        ]
        for facts, wanted in rows:
            with self.subTest(facts=facts):
                self.same(passed(small_book(facts), "tank"), wanted)
        self.same(passed(book=small_book(), name="tank"), None)

    def test_where_alarms_decide(self):
        """Below 40 before and above 60 behind, so all heights between were passed."""
        book = quick_book([("silent", "tank", 2, 3, 40, 60), ("silent", "tank", 7, 8, 40, 60),
                           ("read", "tank", 2, 2, 10, 59), ("read", "tank", 7, 7, 41, 90)])
        self.same(passed(book, "tank"), (40, 60))


class Differences(Asks):
    def test_no_facts(self):
        self.same(differences(three_levels(), "tank", "b", 5), [(-100, 100)])

    def test_readings(self):
        book = three_levels([("read", "tank", 5, 5, 40, 45), ("read", "b", 6, 6, 70, 80)])
        self.same(differences(book, "tank", "b", 5), [(24, 41)])
        self.same(differences(book, "b", "tank", 5), [(-41, -24)])
        self.same(differences(book, "tank", "b", Exact(11, 2)), [(24, 41)])
        self.same(differences(book=book, one="tank", other="c", moment=5), [(-45, 60)])

    def test_one_height_apart(self):
        book = three_levels([("above", "tank", "b", 2, 4, 5), ("above", "b", "tank", 3, 3, -5)])
        self.same(differences(book, "tank", "b", 3), [(5, 5)])
        self.same(differences(book, "b", "tank", 3), [(-5, -5)])
        self.same(differences(book, "tank", "b", 4), [(5, 7)])
        self.same(differences(book, "tank", "b", 5), [(3, 9)])

    def test_chains_between_the_levels(self):
        """tank is below c by way of b, and all three are anywhere: only the chain holds them together."""
        book = three_levels([("above", "tank", "b", 2, 2, 10), ("above", "b", "c", 5, 5, 20)])
        self.same(differences(book, "tank", "c", 2), [(24, 100)])
        self.same(differences(book, "tank", "c", 5), [(24, 100)])
        self.same(differences(book, "tank", "c", 4), [(24, 100)])
        self.same(differences(book, "tank", "b", 5), [(4, 80)])
        self.same(differences(book, "c", "tank", 2), [(-100, -24)])
        self.same(differences(book, "tank", "c", 8), [(18, 100)])

    def test_chain_and_ground(self):
        """Either the chain between two levels or their own heights hold them together."""
        facts = [("above", "tank", "b", 2, 2, 10), ("read", "tank", 2, 2, 30, 40), ("read", "b", 2, 2, 45, 90)]
        self.same(differences(three_levels(facts), "tank", "b", 2), [(10, 60)])
        facts[2] = ("read", "b", 2, 2, 55, 90)
        self.same(differences(three_levels(facts), "tank", "b", 2), [(15, 60)])

    def test_silent_facts(self):
        facts = [("silent", "tank", 5, 5, 40, 50), ("read", "b", 5, 5, 60, 60), ("read", "tank", 5, 5, 35, 55)]
        self.same(differences(three_levels(facts), "tank", "b", 5), [(5, 10), (20, 25)])
        self.same(differences(three_levels(facts), "b", "tank", 5), [(-25, -20), (-10, -5)])
        facts[1] = ("read", "b", 5, 5, 60, 70)
        self.same(differences(three_levels(facts), "tank", "b", 5), [(5, 35)])
        facts += [("silent", "b", 5, 5, 61, 69)]
        self.same(differences(three_levels(facts), "tank", "b", 5), [(5, 11), (14, 26), (29, 35)])


class Wrong(Asks):
    def check(self, error, held, call):
        check_error(self, error, held, call)

    def test_unknown_levels(self):
        for book in (small_book(), unfit_book()):
            known = book.names()
            for name in no_names():
                if not isinstance(name, str) or name not in known:
                    self.check(UnknownLevel, name, lambda: heights(book, name, 5))
                    self.check(UnknownLevel, name, lambda: heights(book, name, None))
                    self.check(UnknownLevel, name, lambda: moments(book, name, 5))
                    self.check(UnknownLevel, name, lambda: moments(book, name, None))
                    self.check(UnknownLevel, name, lambda: within(book, name, 5, 6))
                    self.check(UnknownLevel, name, lambda: within(book, name, None, None))
                    self.check(UnknownLevel, name, lambda: passed(book, name))

    def test_moments(self):
        for book in (small_book(), unfit_book()):
            for moment in no_moments():
                self.check(BadMoment, moment, lambda: heights(book, "tank", moment))

    def test_heights(self):
        for book in (small_book(), unfit_book()):
            for height in no_numbers() + [object()]:
                self.check(BadHeight, height, lambda: moments(book, "tank", height))
                self.check(BadHeight, height, lambda: within(book, "tank", height, 5))
                self.check(BadHeight, height, lambda: within(book, "tank", height, None))
                self.check(BadHeight, height, lambda: within(book, "tank", 5, height))

    def test_low_above_high(self):
        for book in (small_book(), unfit_book()):
            for low, high in ((5, 4), (5, Exact(9, 2)), (5, 5 - TINY), (-4, -5), (Exact(1, 3), Exact(1, 4))):
                self.check(BadHeight, high, lambda: within(book, "tank", low, high))

    def test_differences(self):
        for book in (three_levels(), unfit_book()):
            for name in no_names():
                self.check(UnknownLevel, name, lambda: differences(book, name, "b", 5))
                self.check(UnknownLevel, name, lambda: differences(book, name, "zzz", None))
                self.check(UnknownLevel, name, lambda: differences(book, "b", name, 5))
                self.check(UnknownLevel, name, lambda: differences(book, "b", name, None))
            same = "".join(["t", "ank"])
            self.check(UnknownLevel, same, lambda: differences(book, "tank", same, 5))
            self.check(UnknownLevel, same, lambda: differences(book, "tank", same, -1))
            for moment in no_moments():
                self.check(BadMoment, moment, lambda: differences(book, "tank", "b", moment))

    def test_books_that_no_history_fits(self):
        ring = three_levels([("above", "b", "c", 5, 5, 1), ("above", "c", "b", 5, 5, 0)])
        silent = three_levels([("silent", "tank", 5, 5, 40, 50), ("read", "tank", 5, 5, 41, 49)])
        for book in (unfit_book(), ring, silent):
            self.check(Unfit, None, lambda: heights(book, "tank", 5))
            self.check(Unfit, None, lambda: heights(book, "c", 0))
            self.check(Unfit, None, lambda: moments(book, "tank", 5))
            self.check(Unfit, None, lambda: moments(book, "tank", 500))
            self.check(Unfit, None, lambda: within(book, "c", 5, 5))
            self.check(Unfit, None, lambda: passed(book, "c"))
            self.check(Unfit, None, lambda: differences(book, "c", "tank", 5))


class Forms(Asks):
    def books(self):
        facts = [("silent", "tank", 2, 4, 40, 50), ("above", "tank", "b", 3, Exact(7, 2), 5),
                 ("read", "b", 6, 6, 30, 70), ("silent", "b", 1, 9, HALF, Exact(1001, 20))]
        book = three_levels(facts)
        frame, levels, facts = as_lists(book.frame()), as_lists(book.levels()), as_lists(book.facts())
        return [book, Book(*as_exacts(frame), as_exacts(levels), as_exacts(facts)), Book.of_text(book.text())]

    def calls(self):
        return [lambda book: heights(book, "tank", 3), lambda book: moments(book, "tank", 45),
                lambda book: within(book, "b", 30, 60), lambda book: passed(book, "b"),
                lambda book: differences(book, "tank", "b", 3), lambda book: heights(book, "b", Exact(10, 3))]

    def test_same_again(self):
        for call in self.calls():
            first, second, third = [call(book) for book in self.books()]
            self.same(second, first)
            self.same(third, first)
            book = self.books()[0]
            wanted = kinds(call(book))
            scramble(call(book))
            self.assertEqual(kinds(call(book)), wanted)
            self.assertEqual(book, self.books()[0])

    def test_numbers_that_are_passed_are_not_told(self):
        moment, height = Exact(10, 3), Exact(41, 1)
        book = self.books()[0]
        scramble(heights(book, "tank", moment))
        scramble(moments(book, "tank", height))
        scramble(within(book, "tank", height, height))
        self.same((moment, height), (Exact(10, 3), Exact(41, 1)))


class Randoms(Asks):
    def test_random_heights_and_differences(self):
        source = random.Random(20)
        seen = holes = 0
        for count in range(160):
            book = random_book(source, silents=4, facts=8)
            asked = [number(source, 0, book.frame()[1], (1, 2, 3, 5, 7)) for _ in range(2)]
            oracle = Oracle(book, asked)
            if oracle.fits():
                seen += 1
                for moment in asked:
                    for one in book.names():
                        found = heights(book, one, moment)
                        holes += len(found) - 1
                        self.assertEqual(fractions(found), oracle.heights(one, moment))
                        for other in book.names():
                            if one != other:
                                self.assertEqual(fractions(differences(book, one, other, moment)),
                                                 oracle.differences(one, other, moment))
        self.assertGreater(seen, 60)
        self.assertGreater(holes, 10)

    def test_random_zones(self):
        source = random.Random(22)
        seen = 0
        for count in range(110):
            book = random_book(source, silents=3, facts=6)
            if is_fit(book):
                seen += 1
                name = source.choice(book.names())
                low = number(source, 0, 12)
                high = low + source.choice((0, 0, number(source, 0, 5)))
                sure, possible = within(book, name, low, high)
                self.check_zone(book, name, low, high, "is_sure", fractions(sure))
                self.check_zone(book, name, low, high, "is_possible", fractions(possible))
                self.same(moments(book, name, low), within(book, name, low, low)[1])
        self.assertGreater(seen, 50)

    def check_zone(self, book, name, low, high, word, stretches):
        """Asks another way to look at the book about the ends of the stretches and about moments between and beside."""
        for one, other in zip(stretches, stretches[1:]):
            self.assertLess(one[1], other[0])
        end = fraction(book.frame()[1])
        inside = [moment for since, until in stretches for moment in (since, until, (since + until) / 2)]
        edges = [Fraction(0), *[moment for stretch in stretches for moment in stretch], end]
        outside = []
        for since, until in zip(edges[::2], edges[1::2]):
            outside += [since + (until - since) * Fraction(share, 1000) for share in (0, 1, 500, 999, 1000)]
        outside = [moment for moment in outside if not any(since <= moment <= until for since, until in stretches)]
        asked = inside[:6] + outside[:6]
        oracle = Oracle(book, [exact(moment) for moment in asked])
        for moment in asked:
            answer = getattr(oracle, word)(name, moment, fraction(low), fraction(high))
            self.assertIs(answer, moment in inside, (book.text(), word, moment))

    def test_random_passed(self):
        """A height is passed just if no history stays away from it: on one side of it, as it goes without jumps."""
        source = random.Random(24)
        seen = {True: 0, False: 0}
        for count in range(300):
            book = random_book(source, silents=2, facts=7)
            if is_fit(book):
                end = book.frame()[1]
                for name in book.names():
                    found = passed(book, name)
                    height = number(source, 0, 12) if found is None else source.choice(found) + source.randint(-1, 1)
                    tiny = Exact(1, 10 ** 12)
                    away = [("read", name, 0, end, -99, height - tiny), ("read", name, 0, end, height + tiny, 99)]
                    wanted = not any(is_fit(book.further([fact])) for fact in away)
                    seen[wanted] += 1
                    self.assertIs(found is not None and found[0] <= height <= found[1], wanted)
        self.assertGreater(min(seen.values()), 10)


if __name__ == "__main__":
    unittest.main()
