"""Promises 3, 8, 9, 10 and 11: books that are as they should be, and what they tell."""

import unittest

from surelevels.books import Book
from surelevels.errors import BadPart
from surelevels.exacts import Exact
from tests.things import TANK, as_exacts, as_lists, as_tuples, kinds, no_numbers, small_book

HUGE = 10 ** 60 - 1

LEVELS = [("tank", [(4, 2, 1), (Exact(13, 2), 0, 0), (10, Exact(1, 3), 5)]), ("b", [(10, 1, 1)]),
          ("abcdefgh", [(1, 0, 3), (10, 3, 0)])]
FACTS = [
    ("read", "tank", 0, 10, -5, 200), ("read", "b", 3, 3, 7, 7), ("silent", "abcdefgh", Exact(1, 2), 10, 0, 1),
    ("silent", "b", 10, 10, Exact(-1, 3), Exact(1, 3)), ("above", "tank", "b", 0, 0, -4),
    ("above", "b", "tank", 2, Exact(5, 2), Exact(1, 7)), ("read", "b", 3, 3, 7, 7), ("above", "b", "abcdefgh", 0, 10, 0),
]


def big_book():
    return Book(0, 10, Exact(-1, 2), 100, LEVELS, FACTS)


class Told(unittest.TestCase):
    def same(self, result, wanted):
        self.assertEqual(kinds(result), kinds(wanted))

    def check_big(self, book):
        self.same(book.frame(), (0, 10, Exact(-1, 2), 100))
        self.same(book.levels(), LEVELS)
        self.same(book.facts(), FACTS)
        self.same(book.names(), ["tank", "b", "abcdefgh"])
        self.same(list(book), FACTS)
        self.same([fact for fact in book], FACTS)
        self.assertEqual(len(book), 8)

    def test_small(self):
        book = small_book()
        self.same(book.frame(), (0, 10, 0, 100))
        self.same(book.levels(), TANK)
        self.same(book.facts(), [])
        self.same(book.names(), ["tank"])
        self.same(list(book), [])
        self.assertEqual(len(book), 0)

    def test_big(self):
        self.check_big(big_book())

    def test_lists_and_tuples(self):
        for form in (as_lists, as_tuples):
            for other in (as_lists, as_tuples):
                self.check_big(Book(0, 10, Exact(-1, 2), 100, form(LEVELS), other(FACTS)))
        mixed = [["tank", ((4, 2, 1), [Exact(13, 2), 0, 0], (10, Exact(1, 3), 5))], ("b", [[10, 1, 1]]), LEVELS[2]]
        self.check_big(Book(0, 10, Exact(-1, 2), 100, mixed, [list(FACTS[0])] + FACTS[1:]))

    def test_integers_and_exacts(self):
        book = Book(Exact(0), Exact(20, 2), Exact(-1, 2), Exact(100), as_exacts(LEVELS), as_exacts(FACTS))
        self.check_big(book)
        self.assertTrue(book == big_book())

    def test_by_names(self):
        book = Book(facts=FACTS, levels=LEVELS, top=100, bottom=Exact(-1, 2), end=10, start=0)
        self.check_big(book)
        self.check_big(Book(0, 10, Exact(-1, 2), 100, LEVELS, facts=FACTS))
        self.check_big(small_bigger().further(facts=FACTS))
        self.assertEqual(len(big_book().without(index=3)), 7)

    def test_facts_are_none_by_default(self):
        self.assertTrue(Book(0, 10, 0, 100, TANK) == Book(0, 10, 0, 100, TANK, []))

    def test_sixty_digits(self):
        levels = [("deep", [(HUGE, HUGE, Exact(1, HUGE))])]
        facts = [("silent", "deep", -HUGE, HUGE, Exact(-HUGE, 2), HUGE)]
        book = Book(-HUGE, HUGE, Exact(1, HUGE), Exact(2, HUGE), levels, facts)
        self.same(book.frame(), (-HUGE, HUGE, Exact(1, HUGE), Exact(2, HUGE)))
        self.same(book.levels(), levels)
        self.same(book.facts(), facts)

    def test_edges_of_facts(self):
        start, end = Exact(-1, 2), Exact(1, 2)
        for a, b in ((start, end), (start, start), (end, end), (0, 0), (start, 0), (0, end)):
            for fact in [("read", "a", a, b, 5, 5), ("read", "a", a, b, -10 ** 9, 10 ** 9), ("silent", "a", a, b, 5, 6),
                         ("silent", "a", a, b, -7, Exact(-13, 2)), ("above", "a", "b", a, b, -10 ** 9),
                         ("above", "b", "a", a, b, Exact(1, 2))]:
                book = Book(start, end, 0, 1, [("a", [(end, 0, 0)]), ("b", [(0, 0, 0), (end, 0, 1)])], [fact])
                self.same(book.facts(), [fact])

    def test_words(self):
        for word in ("a", "z", "abcdefgh", "rate", "level", "read", "above", "none"):
            book = Book(0, 10, 0, 100, [(word, [(10, 2, 1)])], [("read", word, 0, 0, 1, 1)])
            self.same(book.names(), [word])

    def test_facts_may_stand_twice(self):
        fact = ("read", "tank", 0, 0, 5, 5)
        self.same(small_book([fact] * 8).facts(), [fact] * 8)

    def test_iterating_twice(self):
        book = big_book()
        first = iter(book)
        next(first)
        self.same(list(book), FACTS)
        self.same(list(first), FACTS[1:])
        self.assertTrue(FACTS[2] in book)
        self.assertFalse(("read", "b", 3, 3, 7, 8) in book)


def small_bigger():
    return Book(0, 10, Exact(-1, 2), 100, LEVELS)


class Changes(unittest.TestCase):
    def test_of_what_was_passed(self):
        levels, facts = as_lists(LEVELS), as_lists(FACTS)
        book = Book(0, 10, Exact(-1, 2), 100, levels, facts)
        levels[0][0] = "other"
        levels[0][1][0][1] = 99
        levels[0][1].pop()
        levels[1][1].clear()
        levels[2].append(3)
        levels.pop()
        facts[0][0] = "silent"
        facts[1][4] = None
        facts[2].clear()
        facts.append("more")
        self.assertTrue(book == big_book())
        self.assertEqual(kinds(book.levels()), kinds(LEVELS))
        self.assertEqual(kinds(book.facts()), kinds(FACTS))

    def test_of_what_was_passed_to_further(self):
        facts = as_lists(FACTS)
        book = small_bigger().further(facts)
        facts[0][4] = 7
        facts.clear()
        self.assertTrue(book == big_book())

    def test_of_exacts_that_were_passed(self):
        start, until, mark = Exact(1, 2), Exact(5, 2), Exact(7, 2)
        book = Book(start, until, 0, 1, [("a", [(until, mark, 0)])], [("read", "a", start, until, 0, mark)])
        start.over, until.over, mark.over = 3, 9, 11
        self.assertTrue(book == Book(Exact(1, 2), Exact(5, 2), 0, 1, [("a", [(Exact(5, 2), Exact(7, 2), 0)])],
                                     [("read", "a", Exact(1, 2), Exact(5, 2), 0, Exact(7, 2))]))

    def test_of_what_was_told(self):
        book = big_book()
        levels, facts, names = book.levels(), book.facts(), book.names()
        levels[0][1].pop()
        levels[1][1][0] = (10, 7, 7)
        levels.pop()
        facts[0] = None
        facts.pop()
        names[0] = "other"
        names.append("more")
        book.levels()[0][1][1][0].over = 1
        book.facts()[2][2].over = 5
        book.frame()[2].over = 5
        self.assertTrue(book == big_book())
        self.assertEqual(kinds(book.levels()), kinds(LEVELS))
        self.assertEqual(kinds(book.facts()), kinds(FACTS))
        self.assertEqual(kinds(book.frame()), kinds((0, 10, Exact(-1, 2), 100)))
        self.assertEqual(book.names(), ["tank", "b", "abcdefgh"])

    def test_lists_are_new(self):
        book = big_book()
        self.assertIsNot(book.levels(), book.levels())
        self.assertIsNot(book.levels()[0][1], book.levels()[0][1])
        self.assertIsNot(book.facts(), book.facts())
        self.assertIsNot(book.names(), book.names())

    def test_nothing_passed_is_modified(self):
        levels, facts = as_lists(LEVELS), as_lists(FACTS)
        book = Book(0, 10, Exact(-1, 2), 100, levels, facts[:3])
        book.further(facts[3:])
        self.assertEqual(kinds(levels), kinds(as_lists(LEVELS)))
        self.assertEqual(kinds(facts), kinds(as_lists(FACTS)))
        self.assertEqual(len(book), 3)


class Equal(unittest.TestCase):
    def check_unequal(self, one, other):
        self.assertIs(one == other, False)
        self.assertIs(other == one, False)
        self.assertIs(one != other, True)
        self.assertIs(other != one, True)

    def test_equal(self):
        one, other = big_book(), Book(0, Exact(10), Exact(2, -4), 100, as_lists(LEVELS), as_tuples(FACTS))
        self.assertIs(one == other, True)
        self.assertIs(one != other, False)
        self.assertIs(one == one, True)

    def test_unequal_frames(self):
        for frame in ((-1, 10, 0, 100), (0, 10, -1, 100), (0, 10, 0, 101), (0, 10, Exact(1, 2), 100)):
            self.check_unequal(small_book(), Book(*frame, TANK))
        self.check_unequal(small_book(), Book(0, 11, 0, 100, [("tank", [(11, 2, 1)])]))

    def test_unequal_levels(self):
        for levels in ([("tanks", [(10, 2, 1)])], [("tank", [(10, 2, 2)])], [("tank", [(10, 1, 1)])],
                       [("tank", [(5, 2, 1), (10, 2, 1)])], TANK + [("b", [(10, 2, 1)])]):
            self.check_unequal(small_book(), Book(0, 10, 0, 100, levels))
        other = ("b", [(10, 2, 1)])
        self.check_unequal(Book(0, 10, 0, 100, [TANK[0], other]), Book(0, 10, 0, 100, [other, TANK[0]]))

    def test_unequal_facts(self):
        fact = ("read", "tank", 1, 2, 3, 4)
        book = small_book([fact])
        for facts in ([], [fact, fact], [("silent", "tank", 1, 2, 3, 4)], [("read", "tank", 0, 2, 3, 4)],
                      [("read", "tank", 1, 3, 3, 4)], [("read", "tank", 1, 2, 2, 4)], [("read", "tank", 1, 2, 3, 5)]):
            self.check_unequal(book, small_book(facts))
        other = ("silent", "tank", 1, 2, 3, 4)
        self.check_unequal(small_book([fact, other]), small_book([other, fact]))

    def test_unequal_to_other_objects(self):
        book = small_book()
        for thing in no_numbers() + [0, 3, Exact(0), Exact(1, 2), TANK, book.text(), BadPart(book), object()]:
            if not isinstance(thing, Book):
                with self.subTest(thing=thing):
                    self.check_unequal(book, thing)


class FurtherAndWithout(unittest.TestCase):
    def test_further(self):
        book = small_bigger()
        for fact in FACTS:
            book = book.further([fact])
        self.assertTrue(book == big_book())
        self.assertTrue(small_bigger().further(FACTS[:3]).further(as_lists(FACTS[3:])) == big_book())
        self.assertTrue(small_bigger().further(as_tuples(FACTS)) == big_book())

    def test_further_with_no_facts(self):
        for book in (small_bigger(), big_book()):
            for facts in ([], ()):
                result = book.further(facts)
                self.assertTrue(result == book)
                self.assertIs(type(result), Book)

    def test_without(self):
        for index in range(8):
            result = big_book().without(index)
            self.assertIs(type(result), Book)
            self.assertTrue(result == Book(0, 10, Exact(-1, 2), 100, LEVELS, FACTS[:index] + FACTS[index + 1:]))

    def test_the_book_stays(self):
        book = big_book()
        book.without(0)
        small = small_bigger()
        small.further(FACTS)
        self.assertTrue(book == big_book())
        self.assertTrue(small == small_bigger())
        self.assertEqual(len(small), 0)

    def test_there_and_back(self):
        book = small_book([("read", "tank", 0, 0, 1, 2)])
        self.assertTrue(book.further([("read", "tank", 1, 1, 1, 2)]).without(1) == book)
        self.assertTrue(book.without(0) == small_book())


if __name__ == "__main__":
    unittest.main()
