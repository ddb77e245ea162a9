"""Promises 3, 4, 13 and 14: lines, their points and heights, and what they are beside other lines."""

import random
import unittest
from fractions import Fraction

from surelevels.errors import BadLine, BadMoment, BadPart, BadPoint
from surelevels.exacts import Exact
from surelevels.lines import Line
from tests.oracle import exact, fraction, fractions
from tests.things import (as_exacts, as_lists, as_tuples, kinds, no_lists, no_moments, no_numbers, scramble,
                          small_book)

HALF = Exact(1, 2)
SPOTS = [(0, 5), (2, 1), (Exact(7, 2), 4), (10, -3)]


class Points(unittest.TestCase):
    def same(self, result, wanted):
        self.assertEqual(kinds(result), kinds(wanted))

    def test_told_as_pairs(self):
        self.same(Line(SPOTS).points(), SPOTS)
        self.same(Line(points=[(-3, -4), (-2, Exact(9, 7))]).points(), [(-3, -4), (-2, Exact(9, 7))])

    def test_whole_numbers_are_told_as_integers(self):
        self.same(Line([(Exact(0), Exact(6, 2)), (Exact(4, 2), 1)]).points(), [(0, 3), (2, 1)])

    def test_straight_on(self):
        rows = [
            ([(0, 0), (1, 1), (2, 2)], [(0, 0), (2, 2)]),
            ([(0, 0), (1, 1), (2, 2), (3, 3), (10, 10)], [(0, 0), (10, 10)]),
            ([(0, 7), (1, 7), (2, 7), (3, 8)], [(0, 7), (2, 7), (3, 8)]),
            ([(0, 0), (1, 1), (2, 2), (3, 1), (4, 0), (5, 0)], [(0, 0), (2, 2), (4, 0), (5, 0)]),
            ([(0, 0), (Exact(1, 3), 1), (1, 3), (2, 5)], [(0, 0), (1, 3), (2, 5)]),
            ([(0, 0), (1, 1), (2, 2 + Exact(1, 10 ** 50))], [(0, 0), (1, 1), (2, 2 + Exact(1, 10 ** 50))]),
            ([(0, 0), (1, 1), (3, 2), (4, 3)], [(0, 0), (1, 1), (3, 2), (4, 3)]),
            ([(0, 0), (1, -1)], [(0, 0), (1, -1)]),
            ([(0, 0), (2, 0)], [(0, 0), (2, 0)]),
        ]
        for points, wanted in rows:
            with self.subTest(points=points):
                self.same(Line(points).points(), wanted)

    def test_lists_tuples_and_exacts_mean_the_same(self):
        for points in (as_lists(SPOTS), as_tuples(SPOTS), as_exacts(SPOTS), [[0, 5], *SPOTS[1:]]):
            self.same(Line(points).points(), SPOTS)
            self.assertEqual(Line(points), Line(SPOTS))

    def test_later_changes_have_no_effect(self):
        points = as_lists(as_exacts(SPOTS))
        line = Line(points)
        scramble(points)
        self.same(line.points(), SPOTS)
        self.same(line(1), 3)

    def test_what_is_passed_is_not_modified(self):
        points = [[0, Exact(1, 2)], [1, 1], [2, Exact(3, 2)]]
        Line(points)
        self.same(points, [[0, Exact(1, 2)], [1, 1], [2, Exact(3, 2)]])

    def test_told_lists_are_new(self):
        line = Line(SPOTS)
        scramble(line.points())
        self.same(line.points(), SPOTS)

    def test_equal(self):
        self.assertTrue(Line([(0, 0), (1, 1), (2, 2)]) == Line([(0, 0), (Exact(3, 2), Exact(3, 2)), (2, 2)]))
        self.assertFalse(Line([(0, 0), (1, 1), (2, 2)]) != Line([(0, 0), (2, 2)]))
        for points in ([(0, 0), (2, 3)], [(0, 0), (3, 3)], [(0, 0), (1, 2), (2, 2)], [(-1, -1), (2, 2)]):
            self.assertFalse(Line([(0, 0), (2, 2)]) == Line(points))
            self.assertTrue(Line([(0, 0), (2, 2)]) != Line(points))

    def test_unequal_to_other_objects(self):
        line = Line([(0, 0), (2, 2)])
        for thing in no_numbers() + [0, 2, [(0, 0), (2, 2)], ((0, 0), (2, 2)), line.points(), object(), Exact(2)]:
            self.assertFalse(line == thing)
            self.assertFalse(thing == line)
            self.assertTrue(line != thing)


class WrongPoints(unittest.TestCase):
    def check(self, index, points):
        with self.assertRaises(BadPoint) as caught:
            Line(points)
        self.assertEqual(kinds(caught.exception.index), kinds(index))

    def test_no_list(self):
        for thing in no_lists() + [object(), Line(SPOTS), iter(SPOTS), set(), b"ab"]:
            self.check(0, thing)

    def test_empty_or_alone(self):
        self.check(0, [])
        self.check(0, ())
        self.check(1, [(0, 5)])
        self.check(1, ((Exact(1, 2), 5),))
        self.check(0, [(0, None)])
        self.check(0, [3])

    def wrong_items(self):
        items = [thing for thing in no_numbers() if thing != (3, 2)]
        items += [0, 1, Exact(4), "ab", b"ab", {0: 1, 1: 2}, object(), Line(SPOTS)]
        items += [(), (4,), [4], (4, 4, 4), [4, 4, 4], [[4, 4]], ((4, 4),)]
        items += [(thing, 4) for thing in no_numbers()] + [[4, thing] for thing in no_numbers()]
        return items

    def test_each_wrong_item_at_each_place(self):
        good = [(0, 1), (2, 3), (5, 5), (6, 0)]
        for item in self.wrong_items():
            for index in range(len(good)):
                with self.subTest(item=item, index=index):
                    self.check(index, good[:index] + [item] + good[index:])
                    self.check(index, tuple(good[:index] + [item]))

    def test_moments_that_do_not_rise(self):
        self.check(1, [(0, 1), (0, 1)])
        self.check(1, [(0, 1), (0, 2), (3, 3)])
        self.check(2, [(0, 1), (2, 3), (1, 3), (5, 5)])
        self.check(2, [(0, 1), (2, 3), (Exact(4, 2), 3)])
        self.check(3, [(0, 1), (2, 3), (4, 4), (4 - Exact(1, 10 ** 40), 4)])
        self.check(1, [(0, 1), (-1, 3)])

    def test_the_first_wrong_one_counts(self):
        self.check(1, [(0, 1), None, (2, 2), "x", (1, 1)])
        self.check(0, [None, None])
        self.check(2, [(0, 1), (1, 1), (1, 1), (2, True)])


class Heights(unittest.TestCase):
    def same(self, result, wanted):
        self.assertEqual(kinds(result), kinds(wanted))

    def test_at_points(self):
        line = Line(SPOTS)
        for moment, height in SPOTS:
            self.same(line(moment), height)
            self.same(line(moment=0 + moment), height)

    def test_between_points(self):
        line = Line(SPOTS)
        self.same(line(1), 3)
        self.same(line(HALF), 4)
        self.same(line(Exact(1, 3)), Exact(13, 3))
        self.same(line(3), 3)
        self.same(line(Exact(5, 2)), 2)
        self.same(line(10 - Exact(13, 14)), -2)
        self.same(line(4), 4 - Exact(7, 13))

    def test_level_line(self):
        line = Line([(0, Exact(1, 3)), (1, Exact(1, 3))])
        self.same(line(Exact(2, 7)), Exact(1, 3))
        self.same(Line([(0, 2), (1, 2)])(HALF), 2)

    def test_told_fractions_are_new(self):
        line = Line([(0, HALF), (1, HALF)])
        scramble(line(0))
        scramble(line(Exact(1, 3)))
        self.same(line(0), HALF)

    def test_no_moments(self):
        line = Line(SPOTS)
        for thing in no_moments() + [line]:
            with self.assertRaises(BadMoment) as caught:
                line(thing)
            self.assertIs(caught.exception.moment, thing)
        for moment in (0, 10, Exact(0), Exact(10)):
            line(moment)


class Beside(unittest.TestCase):
    def check(self, one, other, lower, upper, is_below, is_above):
        """One and other as points, with their lower and upper line and whether one is below, above."""
        one, other = Line(one), Line(other)
        for first, second, below in ((one, other, is_below), (other, one, is_above)):
            self.assertEqual(kinds(first.lower(second).points()), kinds(lower))
            self.assertEqual(kinds(first.upper(second).points()), kinds(upper))
            self.assertIs(first.is_below(second), below)
            self.assertIsInstance(first.lower(other=second), Line)
            self.assertIsInstance(first.upper(other=second), Line)
            self.assertIs(first.is_below(other=second), below)

    def test_cross_once(self):
        self.check([(0, 0), (10, 10)], [(0, 10), (10, 0)], [(0, 0), (5, 5), (10, 0)], [(0, 10), (5, 5), (10, 10)],
                   False, False)
        self.check([(0, 0), (3, 1)], [(0, 1), (3, 0)], [(0, 0), (Exact(3, 2), HALF), (3, 0)],
                   [(0, 1), (Exact(3, 2), HALF), (3, 1)], False, False)
        self.check([(0, 0), (3, 3)], [(0, 1), (3, 2)], [(0, 0), (Exact(3, 2), Exact(3, 2)), (3, 2)],
                   [(0, 1), (Exact(3, 2), Exact(3, 2)), (3, 3)], False, False)

    def test_cross_at_a_point(self):
        self.check([(0, 0), (2, 2), (4, 0)], [(0, 4), (2, 2), (4, 6)], [(0, 0), (2, 2), (4, 0)],
                   [(0, 4), (2, 2), (4, 6)], True, False)
        self.check([(0, 0), (4, 4)], [(0, 4), (2, 2), (4, 1)], [(0, 0), (2, 2), (4, 1)],
                   [(0, 4), (2, 2), (4, 4)], False, False)

    def test_cross_many_times(self):
        zigzag = [(at, 2 * (at & 1)) for at in range(9)]
        lower = [(0, 0)]
        upper = [(0, 1), (HALF, 1)]
        for at in range(1, 9):
            lower += [(at - HALF, 1), (at + HALF, 1)] if at & 1 else [(at, 0)]
            upper += [(at, 2)] if at & 1 else [(at - HALF, 1), (at + HALF, 1)]
        self.check(zigzag, [(0, 1), (8, 1)], lower, upper[:-1] + [(8, 1)], False, False)

    def test_touch(self):
        self.check([(0, 0), (2, 2), (4, 0)], [(0, 2), (4, 2)], [(0, 0), (2, 2), (4, 0)], [(0, 2), (4, 2)], True, False)
        self.check([(0, 0), (4, 4)], [(0, 0), (4, 5)], [(0, 0), (4, 4)], [(0, 0), (4, 5)], True, False)
        self.check([(0, 1), (4, 4)], [(0, 2), (4, 4)], [(0, 1), (4, 4)], [(0, 2), (4, 4)], True, False)

    def test_equal_on_a_part(self):
        one = [(0, 0), (2, 2), (6, 2), (8, 0)]
        other = [(0, 1), (2, 2), (6, 2), (8, 1)]
        self.check(one, other, one, other, True, False)
        self.check([(0, 0), (2, 2), (6, 2), (8, 0)], [(0, 1), (2, 2), (6, 2), (8, -1)],
                   [(0, 0), (2, 2), (6, 2), (8, -1)], [(0, 1), (2, 2), (6, 2), (8, 0)], False, False)

    def test_apart(self):
        one = [(0, 0), (1, 3), (4, 1)]
        other = [(0, 1), (3, 4), (4, Exact(5, 2))]
        self.check([(0, 0), (4, 1)], other, [(0, 0), (4, 1)], other, True, False)
        self.check(one, [(0, 9), (4, 8)], one, [(0, 9), (4, 8)], True, False)

    def test_with_itself(self):
        line = Line(SPOTS)
        self.assertIs(line.is_below(line), True)
        self.assertEqual(line.lower(line), line)
        self.assertEqual(line.upper(line), line)
        self.assertIs(line.is_below(Line(SPOTS)), True)

    def test_barely_above(self):
        tiny = Exact(1, 10 ** 50)
        self.check([(0, 0), (1, tiny), (2, 0)], [(0, 0), (2, 0)], [(0, 0), (2, 0)], [(0, 0), (1, tiny), (2, 0)],
                   False, True)

    def test_lines_are_not_modified(self):
        one, other = Line(SPOTS), Line([(0, 0), (10, 5)])
        scramble(one.lower(other).points())
        scramble(one.upper(other).points())
        self.assertEqual(one.points(), SPOTS)
        self.assertEqual(other.points(), [(0, 0), (10, 5)])

    def test_no_such_lines(self):
        line = Line([(0, 0), (10, 5)])
        wrong = no_numbers() + [0, SPOTS, line.points(), object(), small_book(), BadPart(line)]
        ends = [(0, 9), (1, 10), (0, 11), (-1, 10), (0, 10 + Exact(1, 10 ** 40)), (1, 11), (2, 5), (-1, 11)]
        wrong += [Line([(start, 0), (end, 5)]) for start, end in ends]
        for thing in wrong:
            for call in (line.is_below, line.lower, line.upper):
                with self.assertRaises(BadLine) as caught:
                    call(thing)
                self.assertIs(caught.exception.line, thing)

    def random_line(self, source):
        moments = sorted({Fraction(source.randint(1, 23), source.choice((2, 3))) for _ in range(source.randint(0, 6))})
        moments = [Fraction(0)] + [moment for moment in moments if moment < 6] + [Fraction(6)]
        heights = [Fraction(source.randint(0, 8), source.choice((1, 1, 2))) for _ in moments]
        return list(zip(moments, heights))

    def height(self, spots, moment):
        for (since, low), (until, high) in zip(spots, spots[1:]):
            if since <= moment <= until:
                return low + (high - low) * (moment - since) / (until - since)

    def test_random_lines(self):
        source = random.Random(13)
        for number in range(150):
            mine, yours = self.random_line(source), self.random_line(source)
            one, other = [Line([(exact(moment), exact(height)) for moment, height in spots]) for spots in (mine, yours)]
            lower, upper = one.lower(other), one.upper(other)
            bends = {fraction(point[0]) for line in (one, other, lower, upper) for point in line.points()}
            moments = sorted(bends | {Fraction(source.randint(0, 60), 10) for _ in range(10)})
            low = [self.height(mine, moment) for moment in moments]
            high = [self.height(yours, moment) for moment in moments]
            self.assertEqual([fraction(one(exact(moment))) for moment in moments], low)
            self.assertEqual([fraction(lower(exact(moment))) for moment in moments], list(map(min, low, high)))
            self.assertEqual([fraction(upper(exact(moment))) for moment in moments], list(map(max, low, high)))
            self.assertIs(one.is_below(other), all(a <= b for a, b in zip(low, high)))
            for line in (one, other, lower, upper):
                self.assert_bends(fractions(line.points()))

    def assert_bends(self, spots):
        slopes = [(high - low) / (until - since) for (since, low), (until, high) in zip(spots, spots[1:])]
        for slope, following in zip(slopes, slopes[1:]):
            self.assertNotEqual(slope, following)


if __name__ == "__main__":
    unittest.main()
