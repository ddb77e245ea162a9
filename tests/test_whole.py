"""Promises 2, 3, 4, 9 and 10 over the whole program: other ways to tell of the same levels, names of arguments, turns."""

import random
import unittest

from surelevels import asks, books, errors, exacts, follow, gaps, lines, live, papers
from surelevels.asks import differences, heights, moments, passed, within
from surelevels.books import Book
from surelevels.exacts import Exact
from surelevels.follow import follows, needless
from surelevels.gaps import greatest_gap, least_factor, surely_equal
from surelevels.lines import Line, fits
from surelevels.live import Gauges
from surelevels.papers import highest, is_fit, is_paper, lowest, paper
from tests.changes import Change, Changed
from tests.randoms import number, random_book, stretch
from tests.things import as_exacts, as_lists, as_tuples, kinds, scramble

HALF = Exact(1, 2)


class Changes(Changed):
    def check_all(self, seed, change, many=40, silents=3, facts=7):
        """Change is one for each book, or makes one from a book and a source of random numbers."""
        source = random.Random(seed)
        seen = {True: 0, False: 0}
        while min(seen.values()) < many // 4 or sum(seen.values()) < many:
            small = random_book(source, silents, facts)
            each = change if isinstance(change, Change) else change(small, source)
            seen[self.check(small, each, source)] += 1

    def test_nothing_changed(self):
        self.check_all(1, Change(), many=20)

    def test_upside_down(self):
        self.check_all(2, Change(height=(-1, 0)))
        self.check_all(3, Change(height=(-1, 12)), silents=4, facts=8)

    def test_time_turned_about(self):
        self.check_all(4, Change(time=(-1, 0)))
        self.check_all(5, Change(time=(-1, 5)), silents=4, facts=8)

    def test_both_turned_about(self):
        self.check_all(6, Change(time=(-1, Exact(1, 3)), height=(-1, Exact(1, 7))))

    def test_shifted(self):
        self.check_all(7, Change(time=(1, Exact(22, 7)), height=(1, Exact(-355, 113))))

    def test_stretched(self):
        self.check_all(8, Change(time=(Exact(2, 3), 0), height=(Exact(7, 5), 0)))
        self.check_all(9, Change(time=(Exact(-5, 4), 3), height=(Exact(9, 11), -8)))
        self.check_all(10, Change(time=(17, Exact(1, 2)), height=(Exact(-1, 13), 1)))

    def test_facts_in_another_order(self):
        def change(book, source):
            order = list(range(len(book)))
            source.shuffle(order)
            return Change(facts=order)
        self.check_all(11, change, silents=4, facts=8)

    def test_levels_in_another_order(self):
        def change(book, source):
            order = list(range(len(book.names())))
            source.shuffle(order)
            return Change(levels=order)
        self.check_all(12, change)

    def test_other_names(self):
        self.check_all(13, Change(names={"a": "read", "b": "a", "c": "bottom"}), many=20)
        self.check_all(14, Change(names={"a": "c", "b": "above", "c": "from"}), many=20)
        self.check_all(15, Change(names={"a": "abcdefgh", "b": "abcdefg", "c": "raised"}), many=20)

    def test_rates_cut_in_two(self):
        self.check_all(16, Change(cut=HALF))
        self.check_all(17, Change(cut=Exact(3, 7)), silents=4, facts=8)
        self.check_all(18, Change(cut=Exact(1, 10 ** 30)), many=20)

    def test_everything(self):
        def change(book, source):
            order, places = list(range(len(book))), list(range(len(book.names())))
            source.shuffle(order)
            source.shuffle(places)
            return Change((number(source, -3, -1), number(source, -9, 9)), (number(source, 1, 5), number(source, -9, 9)),
                          {"a": "b", "b": "c", "c": "a"}, places, order, Exact(2, 3))
        self.check_all(19, change, silents=4, facts=8)

    def test_twice_is_as_before(self):
        source = random.Random(20)
        for change in (Change(height=(-1, 12)), Change(time=(-1, 5)), Change(time=(-1, 3), height=(-1, 4))):
            for count in range(10):
                book = random_book(source)
                self.assertEqual(change.book(change.book(book)), book)


class Arguments(unittest.TestCase):
    """Each function, class and method of the interface, with its arguments by their names and by their places."""

    def setUp(self):
        rates = [(10, 2, 1)]
        facts = [("read", "a", 0, 0, 50, 50), ("silent", "a", 2, 8, 51, 55), ("above", "a", "b", 5, 6, 3)]
        self.book = Book(0, 10, 0, 100, [("a", rates), ("b", rates)], facts)
        self.unfit = self.book.further([("read", "b", 5, 5, 0, 10)])
        self.line = Line([(0, 50), (10, 45)])
        self.history = lowest(self.book)

    def calls(self):
        """Rows of a function or a method and its arguments, by their names in the order of the interface."""
        book, other = self.book, Line([(0, 40), (10, 60)])
        gauges, half = Gauges(book), Exact(1, 2)
        fact = ("read", "b", 5, 5, 48, 100)
        return [
            (Exact, {"over": 3, "under": 6}), (half.by, {"other": 3}), (half.text, {}), (Exact.of_text, {"text": "1/2"}),
            (exacts.plain, {"number": half}),
            (Book, {"start": 0, "end": 10, "bottom": 0, "top": 100, "levels": book.levels(), "facts": book.facts()}),
            (book.frame, {}), (book.levels, {}), (book.facts, {}), (book.names, {}), (book.further, {"facts": [fact]}),
            (book.without, {"index": 1}), (book.text, {}), (Book.of_text, {"text": book.text()}),
            (Line, {"points": [(0, 1), (2, 3)]}), (self.line.points, {}), (self.line, {"moment": 5}),
            (self.line.is_below, {"other": other}), (self.line.lower, {"other": other}),
            (self.line.upper, {"other": other}), (fits, {"book": book, "lines": self.history}),
            (lowest, {"book": book}), (highest, {"book": book}), (is_fit, {"book": book}), (paper, {"book": self.unfit}),
            (is_paper, {"book": self.unfit, "thing": paper(self.unfit)}),
            (heights, {"book": book, "name": "a", "moment": 5}), (moments, {"book": book, "name": "a", "height": 52}),
            (within, {"book": book, "name": "a", "low": 40, "high": 60}), (passed, {"book": book, "name": "a"}),
            (differences, {"book": book, "one": "a", "other": "b", "moment": 5}),
            (greatest_gap, {"book": book, "one": "a", "other": "b", "a": 2, "b": 5}),
            (surely_equal, {"book": book, "one": "a", "other": "b", "a": 2, "b": 5}), (least_factor, {"book": self.unfit}),
            (follows, {"book": book, "fact": fact}), (needless, {"book": book}),
            (Gauges, {"book": book}), (gauges.add, {"fact": fact}), (Gauges(book).undo, {}), (Gauges(book).book, {}),
        ]

    def told(self, thing):
        """What is to be seen of a result, to compare it."""
        if isinstance(thing, (list, tuple)):
            return [type(thing), *[self.told(part) for part in thing]]
        if isinstance(thing, Gauges):
            return thing.book()
        return (type(thing), thing)

    def test_by_names_and_by_places(self):
        for at, (call, named) in enumerate(self.calls()):
            with self.subTest(call=call):
                wanted = self.told(self.calls()[at][0](*named.values()))
                self.assertEqual(self.told(call(**named)), wanted)
                turned = dict(list(named.items())[::-1])
                self.assertEqual(self.told(self.calls()[at][0](**turned)), wanted)

    def test_tests_return_true_or_false(self):
        book, line = self.book, self.line
        for answer in (is_fit(book), is_fit(self.unfit), fits(book, self.history), fits(book, None), line == line,
                       line == 3, book == book, book == None, Exact(1) == 1, Exact(1) != 1, Exact(1) < 2,
                       line.is_below(line), is_paper(book, []), is_paper(self.unfit, paper(self.unfit)),
                       follows(book, ("read", "a", 5, 5, 1, 2)), surely_equal(book, "a", "b", 2, 5),
                       Gauges(book).undo(), Gauges(book).add(("read", "a", 5, 5, 1, 2))):
            self.assertIn(answer, (True, False))
            self.assertIs(type(answer), bool)

    def test_errors_by_names(self):
        rows = [("BadPart", "part"), ("BadText", "line"), ("BadFrame", None), ("BadLevel", "index"),
                ("BadFact", "index"), ("BadPlace", "index"), ("BadPoint", "index"), ("BadMoment", "moment"),
                ("BadLine", "line"), ("Unfit", None), ("HasHistory", None), ("UnknownLevel", "name"),
                ("BadHeight", "height")]
        for name, word in rows:
            kind, held = getattr(errors, name), object()
            self.assertEqual(kind.__bases__, (errors.LevelError,))
            error = kind() if word is None else kind(**{word: held})
            self.assertEqual(vars(error), {} if word is None else {word: held})
        self.assertEqual(errors.LevelError.__bases__, (ValueError,))

    def test_everything_stands_in_its_own_file(self):
        for module, names in ((exacts, "Exact plain"), (books, "Book"), (lines, "Line fits"),
                              (papers, "lowest highest is_fit paper is_paper"),
                              (asks, "heights moments within passed differences"),
                              (gaps, "greatest_gap surely_equal least_factor"), (follow, "follows needless"),
                              (live, "Gauges")):
            for name in names.split():
                self.assertEqual(getattr(module, name).__module__, module.__name__)


class Turns(unittest.TestCase):
    """Two books asked in turns, and lists that were told or passed changed in between."""

    def answers(self, book, asked):
        """All answers for a book, in a form in which nothing changes any more; what was told is scrambled."""
        moment, span, low, high, fact = asked
        found = [is_fit(book), least_factor(book), needless(book), follows(book, fact), book.text(), book.levels()]
        if not found[0]:
            return self.frozen(found + [paper(book)])
        for lines_told in (lowest(book), highest(book)):
            found.append([line.points() for line in lines_told])
            lines_told.clear()
        for name in book.names():
            found += [heights(book, name, moment), moments(book, name, low), within(book, name, low, high),
                      passed(book, name)]
            for other in book.names():
                if other != name:
                    gap, history = greatest_gap(book, name, other, *span)
                    found += [differences(book, name, other, moment), gap, [line.points() for line in history],
                              surely_equal(book, name, other, *span)]
                    history.reverse()
        return self.frozen(found)

    def frozen(self, found):
        kept = repr(kinds(found))
        scramble(found)
        return kept

    def asked(self, book, source):
        low = number(source, 0, 8)
        fact = next(fact for fact in [*book.facts(), ("read", book.names()[0], 1, 1, low, 9)] if fact[0] != "above")
        return [number(source, 0, 2), stretch(source, 2), low, low + number(source, 0, 4), fact]

    def test_in_turns(self):
        source = random.Random(21)
        for count in range(20):
            one, other = random_book(source), random_book(source)
            mine, yours = self.asked(one, source), self.asked(other, source)
            first = self.answers(one, mine)
            second = self.answers(other, yours)
            for _ in range(2):
                self.assertEqual(self.answers(one, mine), first)
                self.assertEqual(self.answers(other, yours), second)

    def test_other_forms_of_what_is_passed(self):
        source = random.Random(22)
        for count in range(25):
            book = random_book(source)
            asked = self.asked(book, source)
            wanted = self.answers(book, asked)
            for form in (as_lists, as_tuples, as_exacts, lambda thing: as_exacts(as_lists(thing))):
                passed_on = [list(form(book.frame())), form(book.levels()), form(book.facts())]
                same = Book(*passed_on[0], *passed_on[1:])
                for part in passed_on:
                    scramble(part)
                self.assertEqual(self.answers(same, asked), wanted)
                self.assertEqual(self.answers(same, list(form(asked[:-1])) + [form(asked[-1])]), wanted)
                self.assertEqual(same, book)

    def test_what_is_passed_stays_as_it_is(self):
        source = random.Random(23)
        for count in range(15):
            book = random_book(source)
            asked = as_exacts(as_lists(self.asked(book, source)))
            before = kinds(asked)
            text = book.text()
            self.answers(book, asked)
            self.assertEqual(kinds(asked), before)
            self.assertEqual(book.text(), text)


class Main(unittest.TestCase):
    """Promise 2 of the new functions: all is told by the lowest and the highest history, and what is sure stays so."""

    def test_further_facts_leave_less(self):
        source = random.Random(24)
        seen = 0
        while seen < 40:
            book = random_book(source, silents=3, facts=6)
            fact = random_book(source, silents=1, facts=1).facts()[0]
            names = fact[1:3] if fact[0] == "above" else fact[1:2]
            moment = fact[4] if fact[0] == "above" else fact[3]
            if not is_fit(book) or not set(names) <= set(book.names()) or moment > book.frame()[1]:
                continue
            more = book.further([fact])
            seen += 1
            self.assertLessEqual(self.factor(book), self.factor(more))
            self.assertEqual([index for index in needless(book) if index not in needless(more)], [])
            if fact[0] != "above":
                self.assertIs(follows(more, fact), True)
                self.assertIs(len(book) in needless(more), follows(book, fact))
            if is_fit(more):
                self.check_pair(book, more, source)

    def factor(self, book):
        found = least_factor(book)
        return 10 ** 9 if found is None else found

    def check_pair(self, book, more, source):
        span = stretch(source, book.frame()[1])
        for one in book.names():
            for other in book.names():
                if one != other:
                    gap = greatest_gap(book, one, other, *span)[0]
                    less = greatest_gap(more, one, other, *span)[0]
                    self.assertLessEqual(less, gap)
                    self.assertLessEqual(surely_equal(book, one, other, *span), surely_equal(more, one, other, *span))

    def test_lines_that_follow(self):
        """Facts that follow from a book leave its lowest and its highest history as they are."""
        source = random.Random(25)
        seen = 0
        while seen < 40:
            book = random_book(source, silents=2, facts=5)
            fact = random_book(source, silents=1, facts=2).facts()[-1]
            if fact[0] == "above" or fact[1] not in book.names() or fact[3] > book.frame()[1] or not is_fit(book):
                continue
            if follows(book, fact):
                seen += 1
                self.assertEqual(lowest(book.further([fact])), lowest(book))
                self.assertEqual(highest(book.further([fact])), highest(book))


if __name__ == "__main__":
    unittest.main()
