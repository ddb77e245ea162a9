"""Promise 18: the papers that are told, read in another way, too."""

import random
import unittest

from surelevels.books import Book
from surelevels.errors import HasHistory
from surelevels.exacts import Exact
from surelevels.papers import is_fit, is_paper, paper
from tests.oracle import Chains
from tests.randoms import random_book, stretch
from tests.things import as_exacts, as_lists, kinds, scramble, small_book

TINY = Exact(1, 10 ** 30)
TWO = [("a", [(5, 2, 1), (10, 4, 3)]), ("b", [(10, 1, 2)])]


class Papers(unittest.TestCase):
    def check(self, book):
        found = paper(book)
        self.assert_form(book, found)
        self.assertIs(is_paper(book, found), True)
        self.assertIs(is_paper(book, as_lists(found)), True)
        Chains(book).shows(found)
        self.assertIs(is_fit(book), False)
        return found

    def assert_form(self, book, found):
        self.assertIs(type(found), list)
        for part in found:
            self.assertIs(type(part), tuple)
            self.assertEqual(len(part), 2 if part[0] == "ring" else 3)
            self.assertTrue(len(part) == 2 or part[1] is None or type(part[1]) is int)
            self.assertIs(type(part[-1]), list)
            for place, step in enumerate(part[-1]):
                self.assertIs(type(step), tuple)
                self.assertEqual(len(step), 2 if place else 3)
                if step[0] != "above":
                    self.assert_result(step[-1])
                if step[0] in ("above", "read", "raised"):
                    self.assertIs(type(step[1]), int)

    def assert_result(self, number):
        self.assertIn(type(number), (int, Exact))
        self.assertTrue(type(number) is int or number.under > 1)

    def levels(self, facts):
        return Book(0, 10, 0, 100, TWO, facts)

    def test_contradicting_readings(self):
        found = self.check(small_book([("read", "tank", 0, 0, 50, 50), ("read", "tank", 3, 3, 60, 60)]))
        self.assertEqual(found, [("pass", 0, [("read", 1, 3), ("run", 0)])])
        found = self.check(small_book([("read", "tank", 3, 3, 60, 60), ("read", "tank", 7, 7, 50, 55)]))
        self.assertEqual(found, [("pass", 1, [("read", 0, 3), ("run", 7)])])
        self.check(small_book([("read", "tank", 3, 3, 60, 60), ("read", "tank", 7, 7, 50, 56 - TINY)]))
        self.assertRaises(HasHistory, paper,
                          small_book([("read", "tank", 3, 3, 60, 60), ("read", "tank", 7, 7, 50, 56)]))

    def test_one_reading_beyond_the_frame(self):
        self.assertEqual(self.check(small_book([("read", "tank", 3, 3, -5, -1)])),
                         [("pass", 0, [("bottom", "tank", 3)])])
        self.assertEqual(self.check(small_book([("read", "tank", 3, 3, 101, 105)])),
                         [("pass", None, [("read", 0, 3)])])

    def test_fractions_of_moments(self):
        found = self.check(small_book([("read", "tank", Exact(1, 3), Exact(1, 2), 50, 50),
                                       ("read", "tank", Exact(7, 2), 5, 60, 60)]))
        self.assertEqual(kinds(found), kinds([("pass", 0, [("read", 1, Exact(7, 2)), ("run", Exact(1, 3))])]))

    def test_several_rates_are_one_run(self):
        found = self.check(Book(0, 10, 0, 100, [("a", [(3, 2, 1), (6, 2, 2), (10, 2, 3)])],
                                [("read", "a", 0, 0, 50, 50), ("read", "a", 10, 10, 20, 28)]))
        self.assertEqual(found, [("pass", 1, [("read", 0, 0), ("run", 10)])])

    def test_alarms_between(self):
        """50 at moment 0 is above 45 at moment 2, so not below 55; but the tank cannot rise by 5 in 2 units."""
        facts = [("read", "tank", 0, 0, 50, 50), ("silent", "tank", 2, 4, 45, 55), ("read", "tank", 10, 10, 10, 70)]
        found = self.check(small_book(facts))
        self.assertEqual(found, [("raise", 1, [("read", 0, 0), ("run", 2)]),
                                 ("pass", 0, [("raised", 1, 2), ("run", 0)])])
        facts[1] = ("silent", "tank", 2, 4, 48, 55)
        self.assertRaises(HasHistory, paper, small_book(facts))

    def test_alarms_raised_by_one_another(self):
        facts = [("read", "tank", 10, 10, 10, 68), ("silent", "tank", 8, 9, 55, 70), ("silent", "tank", 5, 5, 53, 60),
                 ("silent", "tank", 2, 4, 45, 55), ("read", "tank", 0, 0, 50, 60)]
        found = self.check(small_book(facts))
        self.assertEqual([part[:2] for part in found], [("raise", 3), ("raise", 2), ("raise", 1), ("pass", 0)])
        facts[0] = ("read", "tank", 10, 10, 10, 69)
        self.assertRaises(HasHistory, paper, small_book(facts))

    def test_alarms_raised_by_bottom(self):
        found = self.check(small_book([("silent", "tank", 2, 4, -5, 20), ("read", "tank", 6, 6, 0, 17)]))
        self.assertEqual([part[:2] for part in found], [("raise", 0), ("pass", 1)])
        found = self.check(small_book([("silent", "tank", 2, 4, -5, 101)]))
        self.assertEqual([part[:2] for part in found], [("raise", 0), ("pass", None)])

    def test_gaps(self):
        found = self.check(self.levels([("read", "a", 2, 2, 50, 60), ("above", "a", "b", 4, 6, 5),
                                        ("read", "b", 8, 8, 20, 46 - TINY)]))
        self.assertEqual(found, [("pass", 2, [("read", 0, 2), ("run", 5), ("above", 1), ("run", 8)])])
        found = self.check(self.levels([("read", "a", 2, 2, 90, 100), ("above", "a", "b", 4, 6, 13)]))
        self.assertEqual(found[-1][:2], ("pass", None))

    def test_alarms_raised_over_gaps(self):
        found = self.check(self.levels([("read", "a", 2, 2, 50, 100), ("above", "a", "b", 4, 6, -5),
                                        ("silent", "b", 7, 8, 30, 70), ("above", "b", "a", 8, 8, 7),
                                        ("silent", "a", 9, 9, 73, 99), ("read", "a", 10, 10, 0, 95)]))
        self.assertEqual([part[:2] for part in found], [("raise", 2), ("raise", 4), ("pass", 5)])

    def test_rings(self):
        found = self.check(self.levels([("above", "a", "b", 2, 2, 5), ("above", "b", "a", 2, 2, -4)]))
        self.assertEqual(found[-1][0], "ring")
        found = self.check(self.levels([("above", "a", "b", 2, 2, 4), ("above", "b", "a", 5, 5, 8 + TINY)]))
        self.assertEqual(found[-1][0], "ring")
        self.assertRaises(HasHistory, paper,
                          self.levels([("above", "a", "b", 2, 2, 4), ("above", "b", "a", 5, 5, 8)]))

    def test_rings_of_three_levels_and_more_facts(self):
        rates = [(4, 1, 2), (10, 3, 1)]
        levels = [("a", rates), ("b", rates), ("c", rates)]
        facts = [("read", "a", 0, 10, 0, 100), ("above", "a", "b", 1, 3, -1), ("above", "b", "c", 5, 7, 12),
                 ("above", "c", "a", 6, 9, 4), ("silent", "b", 2, 3, 50, 60), ("above", "b", "a", 0, 0, -70)]
        found = self.check(Book(0, 10, 0, 100, levels, facts))
        self.assertEqual(found[-1][0], "ring")

    def test_long_rings_that_grow_slowly(self):
        """Where levels stand still, heights would have to go round a ring very often to get anywhere."""
        levels = [("a", [(10, 0, 0)]), ("b", [(10, 0, 0)]), ("c", [(10, 0, 0)])]
        facts = [("above", "a", "b", 0, 0, 3), ("above", "b", "c", 10, 10, -5), ("above", "c", "a", 5, 5, 2 + TINY)]
        self.check(Book(0, 10, 0, 10 ** 60, levels, facts))
        facts[2] = ("above", "c", "a", 5, 5, 2)
        self.assertRaises(HasHistory, paper, Book(0, 10, 0, 10 ** 60, levels, facts))

    def test_levels_with_the_names_of_facts_and_steps(self):
        rates = [(10, 1, 1)]
        self.check(Book(0, 10, 0, 100, [("from", rates), ("run", rates), ("bottom", rates)],
                        [("above", "from", "run", 5, 5, 1), ("above", "run", "bottom", 5, 5, 1),
                         ("above", "bottom", "from", 5, 6, Exact(-3, 2))]))
        self.check(Book(0, 10, 0, 100, [("above", rates), ("silent", rates), ("read", rates)],
                        [("above", "silent", "read", 5, 5, 10), ("silent", "above", 5, 5, 20, 65),
                         ("read", "silent", 5, 5, 60, 70), ("above", "read", "above", 6, 6, -40),
                         ("read", "above", 0, 0, 10, 59)]))

    def test_same_again(self):
        book = self.levels([("read", "a", Exact(1, 2), 2, 50, 60), ("above", "a", "b", 4, 6, -5),
                            ("silent", "b", 7, 8, 30, 70), ("read", "b", Exact(17, 2), 10, 0, 60)])
        first = self.check(book)
        wanted = kinds(first)
        scramble(first)
        self.assertEqual(kinds(paper(book)), wanted)
        self.assertEqual(kinds(paper(book=book)), wanted)
        other = Book(*as_exacts(book.frame()), as_exacts(as_lists(book.levels())), as_exacts(as_lists(book.facts())))
        self.assertEqual(kinds(paper(other)), wanted)
        self.assertEqual(kinds(paper(Book.of_text(book.text()))), wanted)

    def test_book_is_not_modified(self):
        book = small_book([("read", "tank", 0, 0, 50, 50), ("read", "tank", 3, 3, 60, 60)])
        paper(book)
        self.assertEqual(book, small_book([("read", "tank", 0, 0, 50, 50), ("read", "tank", 3, 3, 60, 60)]))

    def test_has_history(self):
        for book in (small_book(), small_book([("silent", "tank", 0, 10, 20, 30)]), self.levels([])):
            with self.assertRaises(HasHistory) as caught:
                paper(book)
            self.assertEqual(vars(caught.exception), {})

    def test_random_books(self):
        source = random.Random(17)
        words = {}
        for number in range(700):
            book = random_book(source, silents=4, facts=8)
            if is_fit(book):
                self.assertRaises(HasHistory, paper, book)
            else:
                found = self.check(book)
                for part in found:
                    word = part[0] + (" top" if part[0] == "pass" and part[1] is None else "")
                    words[word] = words.get(word, 0) + 1
        for word in ("raise", "pass", "pass top", "ring"):
            self.assertGreater(words.get(word, 0), 4, words)

    def test_random_rings(self):
        source = random.Random(21)
        seen = {True: 0, False: 0}
        for number in range(300):
            levels = [(name, [(3, source.randint(0, 1), source.randint(0, 1)), (6, source.randint(0, 1), 0)])
                      for name in "abc"]
            facts = [("above", *source.sample("abc", 2), *stretch(source, 6), Exact(source.randint(-6, 6), 3))
                     for _ in range(source.randint(2, 7))]
            book = Book(0, 6, 0, 1000, levels, facts)
            seen[is_fit(book)] += 1
            if not is_fit(book):
                self.assertEqual(self.check(book)[-1][0], "ring")
        self.assertGreater(min(seen.values()), 50, seen)


if __name__ == "__main__":
    unittest.main()
