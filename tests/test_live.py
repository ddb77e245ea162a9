"""Promise 31: books to which facts are added, and from which they are taken back."""

import random
import unittest

from surelevels.books import Book
from surelevels.errors import BadFact
from surelevels.exacts import Exact
from surelevels.live import Gauges
from surelevels.papers import is_fit, is_paper, lowest, paper
from tests.randoms import random_book
from tests.things import (as_exacts, as_lists, as_tuples, kinds, no_lists, no_names, no_numbers, scramble, small_book,
                          three_levels)

START = ("read", "tank", 0, 0, 50, 50)
ALARM = ("silent", "tank", 2, 8, 51, 55)
END = ("read", "tank", 10, 10, 40, 60)
WRONG = ("read", "tank", 3, 3, 60, 60)


class Live(unittest.TestCase):
    def check_book(self, gauges, facts, plain=small_book):
        book = gauges.book()
        self.assertIs(type(book), Book)
        self.assertEqual(book, plain(facts))
        self.assertEqual(kinds(book.facts()), kinds(plain(facts).facts()))
        self.assertEqual(len(book), len(facts))

    def check_bad(self, gauges, fact, index):
        before = gauges.book()
        with self.assertRaises(BadFact) as caught:
            gauges.add(fact)
        self.assertIs(type(caught.exception.index), int)
        self.assertEqual(caught.exception.index, index)
        self.assertEqual(gauges.book(), before)


class Told(Live):
    def test_one_by_one(self):
        gauges = Gauges(small_book())
        self.check_book(gauges, [])
        self.assertIs(gauges.add(START), True)
        self.check_book(gauges, [START])
        self.assertIs(gauges.add(END), True)
        self.assertIs(gauges.add(ALARM), True)
        self.check_book(gauges, [START, END, ALARM])
        self.assertEqual(lowest(gauges.book()), lowest(small_book([START, END, ALARM])))

    def test_undo(self):
        gauges = Gauges(small_book([START]))
        self.assertIs(gauges.undo(), False)
        self.check_book(gauges, [START])
        gauges.add(END)
        gauges.add(ALARM)
        self.assertIs(gauges.undo(), True)
        self.check_book(gauges, [START, END])
        self.assertIs(gauges.add(WRONG), False)
        self.check_book(gauges, [START, END, WRONG])
        for left in ([START, END], [START]):
            self.assertIs(gauges.undo(), True)
            self.check_book(gauges, left)
        for _ in range(3):
            self.assertIs(gauges.undo(), False)
            self.check_book(gauges, [START])
        self.assertIs(gauges.add(ALARM), True)
        self.check_book(gauges, [START, ALARM])
        self.assertIs(gauges.undo(), True)
        self.assertIs(gauges.undo(), False)

    def test_without_facts_of_its_own(self):
        gauges = Gauges(three_levels())
        self.assertIs(gauges.undo(), False)
        facts = [("above", "tank", "b", 2, 5, 60), ("above", "b", "c", 3, 4, 40), ("above", "b", "c", 3, 4, 41)]
        self.assertEqual([gauges.add(fact) for fact in facts], [True, True, False])
        self.check_book(gauges, facts, three_levels)
        self.assertEqual([gauges.undo() for _ in range(4)], [True, True, True, False])
        self.check_book(gauges, [], three_levels)

    def test_books_that_fit_no_more_and_again(self):
        gauges = Gauges(small_book([START, END]))
        self.assertIs(gauges.add(WRONG), False)
        self.assertIs(is_paper(gauges.book(), paper(gauges.book())), True)
        # Whatever is added then, no history fits.
        self.assertIs(gauges.add(START), False)
        self.assertIs(gauges.add(("silent", "tank", 0, 10, 0, 1)), False)
        self.assertIs(gauges.undo() and gauges.undo() and gauges.undo(), True)
        self.assertIs(is_fit(gauges.book()), True)
        self.assertIs(gauges.add(("read", "tank", 3, 3, 56, 56)), True)
        self.assertIs(gauges.add(("read", "tank", 3, 3, 56 + Exact(1, 10 ** 30), 57)), False)
        gauges = Gauges(small_book([START, WRONG]))
        self.assertIs(gauges.undo(), False)
        self.assertIs(gauges.add(END), False)
        self.assertIs(gauges.undo(), True)
        self.check_book(gauges, [START, WRONG])

    def test_ninth_fact(self):
        gauges = Gauges(small_book([START, END, ALARM]))
        for _ in range(5):
            self.assertIs(gauges.add(END), True)
        self.check_bad(gauges, END, 8)
        self.check_bad(gauges, None, 8)
        self.check_book(gauges, [START, END, ALARM] + [END] * 5)
        self.assertIs(gauges.undo(), True)
        self.check_bad(gauges, None, 7)
        self.assertIs(gauges.add(WRONG), False)
        self.check_bad(gauges, END, 8)
        full = Gauges(small_book([END] * 8))
        self.check_bad(full, END, 8)
        self.assertIs(full.undo(), False)

    def test_no_facts(self):
        good = [("read", "tank", 2, 8, 50, 60), ("silent", "tank", 2, 8, 50, 60)]
        wrong = no_lists() + [(), [], [good[0]], good, ("read",), object()]
        for fact in good:
            wrong += [fact[:5], fact + (70,), (None, *fact[1:]), (*fact[:4], 60, 50), (*fact[:2], 8, 2, 50, 60)]
            wrong += [(fact[0], name, *fact[2:]) for name in no_names()]
            wrong += [(*fact[:at], thing, *fact[at + 1:]) for at in range(2, 6) for thing in no_numbers()]
            wrong += [(*fact[:2], a, b, 50, 60) for a, b in ((-1, 5), (5, 11))]
        wrong += [("above", "tank", "tank", 2, 8, 5), ("above", "tank", "b", 2, 8, 5), ("silent", "tank", 2, 8, 5, 5)]
        for facts in ([], [START, END], [START, WRONG]):
            gauges = Gauges(small_book(facts))
            for fact in wrong:
                self.check_bad(gauges, fact, len(facts))
            self.assertIs(gauges.undo(), False)
            gauges.add(END)
            for fact in wrong[-8:]:
                self.check_bad(gauges, fact, len(facts) + 1)
            self.assertIs(gauges.undo(), True)
            self.check_book(gauges, facts)

    def test_by_names_and_forms(self):
        gauges = Gauges(book=small_book())
        for form in (as_lists, as_tuples, as_exacts, lambda fact: as_exacts(as_lists(fact))):
            self.assertIs(gauges.add(fact=form(END)), True)
            self.check_book(gauges, [END])
            self.assertIs(gauges.undo(), True)


class Apart(Live):
    """What was told and what was passed is nobody else's."""

    def test_books_told_earlier(self):
        gauges = Gauges(small_book())
        told = [gauges.book()]
        facts = [START, END, ALARM, WRONG]
        for fact in facts:
            gauges.add(fact)
            told.append(gauges.book())
        for many, book in enumerate(told):
            self.assertEqual(book, small_book(facts[:many]))
        gauges.undo()
        gauges.undo()
        gauges.add(WRONG)
        for many, book in enumerate(told):
            self.assertEqual(book, small_book(facts[:many]))

    def test_book_passed(self):
        book = small_book([START])
        gauges = Gauges(book)
        gauges.add(END)
        self.assertEqual(book, small_book([START]))
        other = Gauges(book)
        self.check_book(other, [START])
        other.add(ALARM)
        self.check_book(gauges, [START, END])
        self.check_book(other, [START, ALARM])

    def test_changed_behind(self):
        half = Exact(1, 2)
        book = small_book([("read", "tank", half, half, half, half)])
        gauges = Gauges(book)
        fact = ["read", "tank", Exact(3, 2), Exact(3, 2), Exact(3, 2), Exact(3, 2)]
        gauges.add(fact)
        scramble(fact)
        scramble(gauges.book().facts())
        for each in (book, gauges.book()):
            for row in each:
                scramble(row)
        self.check_book(gauges, [("read", "tank", *[half] * 4), ("read", "tank", *[Exact(3, 2)] * 4)])

    def test_two_in_turns(self):
        source = random.Random(31)
        rows = []
        for count in range(12):
            book = random_book(source, silents=3, facts=8)
            rows.append((Gauges(book.without(0) if len(book) == 8 else book), book))
        for step in range(8):
            for gauges, book in rows:
                facts = book.facts()
                before = gauges.book()
                fact = facts[step - step // len(facts) * len(facts)]
                if len(before) < 8:
                    self.assertIs(gauges.add(fact), is_fit(before.further([fact])))
                    self.assertEqual(gauges.book(), before.further([fact]))
                    if step & 1:
                        self.assertIs(gauges.undo(), True)
                        self.assertEqual(gauges.book(), before)


if __name__ == "__main__":
    unittest.main()
