"""Promise 12: the texts of books, and what is none."""

import unittest

from surelevels.books import Book
from surelevels.errors import BadFact, BadFrame, BadLevel, BadText
from surelevels.exacts import Exact
from tests.things import no_lists, small_book

HUGE = 10 ** 60 - 1

TEXT = """frame 0 10 -1/2 100
level tank
rate 4 2 1
rate 13/2 0 0
rate 10 1/3 5
level b
rate 10 1 1
read tank 0 10 -5 200
silent b 10 10 -1/3 1/3
above tank b 2 5/2 -4
"""


def text_book():
    return Book(0, 10, Exact(-1, 2), 100,
                [("tank", [(4, 2, 1), (Exact(13, 2), 0, 0), (10, Exact(1, 3), 5)]), ("b", [(10, 1, 1)])],
                [("read", "tank", 0, 10, -5, 200), ("silent", "b", 10, 10, Exact(-1, 3), Exact(1, 3)),
                 ("above", "tank", "b", 2, Exact(5, 2), -4)])


class Told(unittest.TestCase):
    def test_line_by_line(self):
        self.assertEqual(text_book().text().split("\n"), TEXT.split("\n"))
        self.assertEqual(text_book().text(), TEXT)

    def test_no_facts(self):
        self.assertEqual(small_book().text(), "frame 0 10 0 100\nlevel tank\nrate 10 2 1\n")

    def test_exacts_stand_as_results(self):
        book = Book(Exact(0, 3), Exact(20, 2), Exact(6, -4), Exact(3), [("a", [(Exact(10), Exact(2, 4), 0)])])
        self.assertEqual(book.text(), "frame 0 10 -3/2 3\nlevel a\nrate 10 1/2 0\n")

    def test_sixty_digits(self):
        book = Book(-HUGE, HUGE, Exact(1, HUGE), 1, [("a", [(HUGE, Exact(HUGE, 2), 0)])])
        self.assertEqual(book.text(), f"frame -{HUGE} {HUGE} 1/{HUGE} 1\nlevel a\nrate {HUGE} {HUGE}/2 0\n")
        self.assertTrue(Book.of_text(book.text()) == book)


class Again(unittest.TestCase):
    def test_there_and_back(self):
        for book in (text_book(), small_book(), small_book([("read", "tank", 0, 0, 50, 50)] * 8),
                     text_book().further([("silent", "tank", 0, 1, 3, Exact(7, 2))]), text_book().without(1)):
            again = Book.of_text(book.text())
            self.assertIs(type(again), Book)
            self.assertTrue(again == book)
            self.assertEqual(again.text(), book.text())

    def test_of_text(self):
        self.assertTrue(Book.of_text(text=TEXT) == text_book())
        numbers = Book.of_text(TEXT).frame()
        self.assertEqual([type(number) for number in numbers], [int, int, Exact, int])

    def test_names_like_first_words(self):
        text = "frame 0 1 0 1\nlevel level\nrate 1 0 0\nlevel rate\nrate 1 0 0\nabove level rate 0 1 0\n"
        self.assertEqual(Book.of_text(text).text(), text)


class Wrong(unittest.TestCase):
    def check(self, text, line):
        with self.subTest(text=text), self.assertRaises(BadText) as caught:
            Book.of_text(text)
        self.assertIs(type(caught.exception.line), int)
        self.assertEqual(caught.exception.line, line)

    def check_line(self, number, line):
        """That a line cannot stand in the place of the one with a number, nor ahead of it."""
        lines = TEXT.split("\n")
        self.check("\n".join(lines[:number - 1] + [line] + lines[number:]), number)
        self.check("\n".join(lines[:number - 1] + [line] + lines[number - 1:]), number)
        self.check("\n".join(lines[:number - 1] + [line, "nothing", ""]), number)

    def test_empty(self):
        self.check("", 1)

    def test_last_line_without_line_feed(self):
        self.check(TEXT[:-1], 10)
        self.check("frame 0 10 0 100", 1)
        self.check("frame 0 10 0 100\nlevel tank\nrate 10 2 1", 3)
        self.check("frame 0 10 0 100\nlevel tank\nrate 10 2 1\n ", 4)
        self.check("f", 1)

    def test_first_wrong_line_ahead_of_the_last(self):
        self.check("frame 0 10 0 100\nlevel tank\nrat 10 2 1\nread tank 0 0 1 1", 3)

    def test_blank_lines(self):
        self.check("\n", 1)
        self.check("\n" + TEXT, 1)
        self.check(TEXT + "\n", 11)
        for number in range(1, 11):
            self.check_line(number, "")
            self.check_line(number, " ")

    def test_first_line_is_no_frame(self):
        lines = TEXT.split("\n")
        for line in lines[1:10]:
            self.check(line + "\n", 1)
            self.check(line + "\n" + TEXT, 1)
        self.check("\n".join(lines[1:]), 1)

    def test_frame_elsewhere(self):
        for number in range(2, 11):
            self.check_line(number, "frame 0 10 -1/2 100")

    def test_rate_elsewhere(self):
        self.check("frame 0 10 0 100\nrate 10 1 1\n", 2)
        self.check("frame 0 10 0 100\nrate 10 1 1\nlevel a\nrate 10 1 1\n", 2)
        for number in (9, 10):
            self.check_line(number, "rate 10 1 1")
        self.check(TEXT + "rate 10 1 1\n", 11)

    def test_level_behind_a_fact(self):
        for number in (9, 10):
            self.check_line(number, "level c")
        self.check(TEXT + "level c\nrate 10 1 1\n", 11)

    def test_first_words(self):
        for word in ("Frame", "frames", "FRAME", "note", "book", "", "levels", "rates", "silence", "below", "0", "#"):
            self.check(f"{word} 0 10 -1/2 100\n", 1)
            for number in range(2, 11):
                self.check_line(number, f"{word} tank 0 10 -5 200")

    def test_blanks(self):
        for number, line in enumerate(TEXT.split("\n")[:-1], start=1):
            for wrong in (" " + line, line + " ", line.replace(" ", "  ", 1), line.replace(" ", "\t", 1),
                          line.replace(" ", "", 1), line.replace(" ", "\u00a0", 1), line + "\r", line + "\x0b",
                          "  ".join(line.rsplit(" ", 1)), line.replace(" ", ","), line + "\x0c", line + "\u2028"):
                self.check_line(number, wrong)

    def test_numbers_of_words(self):
        for number, line in enumerate(TEXT.split("\n")[:-1], start=1):
            self.check_line(number, line.rsplit(" ", 1)[0])
            self.check_line(number, line.split(" ")[0])
            self.check_line(number, line + " 1")
            self.check_line(number, line + " a")

    def test_words(self):
        for word in ("Tank", "tank1", "ninechars", "1", "-", "t\u00e4nk", "ta-nk", "\u03b1", "1/2"):
            self.check_line(2, f"level {word}")
            self.check_line(6, f"level {word}")
            self.check_line(8, f"read {word} 0 10 -5 200")
            self.check_line(9, f"silent {word} 10 10 -1/3 1/3")
            self.check_line(10, f"above {word} b 2 5/2 -4")
            self.check_line(10, f"above tank {word} 2 5/2 -4")

    def test_numbers(self):
        for word in ("x", "03", "-0", "+3", "2/4", "3/1", "0/1", "3/0", "3/", "/3", "1.5", "1e1", "--3", "3/-2", "-",
                     "\u0663", "\uff13", "\u22123", "1_0", "0x1", "None", "True"):
            for number, line in enumerate(TEXT.split("\n")[:-1], start=1):
                words = line.split(" ")
                for at in range(1, len(words)):
                    if not words[at].isalpha():
                        self.check_line(number, " ".join(words[:at] + [word] + words[at + 1:]))

    def test_no_texts(self):
        for thing in no_lists() + [[], [TEXT], (), TEXT.encode()]:
            if not isinstance(thing, str):
                self.check(thing, 1)


class ErrorsOfBook(unittest.TestCase):
    START = "frame 0 10 0 100\n"
    LEVEL = "level tank\nrate 10 2 1\n"

    def test_frame(self):
        for frame in ("10 0 0 100", "0 0 0 100", "0 10 100 0", "0 10 1/2 1/2"):
            for rest in (self.LEVEL, "", "level tank\n", "read tank 0 0 1 1\n"):
                with self.subTest(frame), self.assertRaises(BadFrame):
                    Book.of_text("frame " + frame + "\n" + rest)

    def test_levels(self):
        for rest, index in [("", 0), ("read tank 0 0 1 1\n", 0), ("level tank\n", 0), ("level a\nlevel b\n", 0),
                            (self.LEVEL + "level b\n", 1), (self.LEVEL + "level b\nread tank 0 0 1 1\n", 1),
                            ("level tank\nrate 9 1 1\n", 0), ("level tank\nrate 11 1 1\n", 0),
                            ("level tank\nrate 5 1 1\nrate 5 1 1\nrate 10 1 1\n", 0),
                            ("level tank\nrate 0 1 1\nrate 10 1 1\n", 0), ("level tank\nrate 10 -1 1\n", 0),
                            ("level tank\nrate 10 1 -1/2\n", 0), (self.LEVEL + self.LEVEL, 1),
                            ("level tank\nrate 1 1 1\nrate 2 1 1\nrate 3 1 1\nrate 10 1 1\n", 0),
                            (self.LEVEL + "level b\nrate 10 1 1\nlevel c\nrate 10 1 1\nlevel d\nrate 10 1 1\n", 3),
                            (self.LEVEL + "level b\nrate 9 1 1\nread nobody 0 0 1 1\n", 1)]:
            with self.subTest(rest), self.assertRaises(BadLevel) as caught:
                Book.of_text(self.START + rest)
            self.assertEqual(caught.exception.index, index)

    def test_facts(self):
        levels = self.START + self.LEVEL + "level b\nrate 10 1 1\n"
        good = "read tank 0 0 1 1\n"
        for rest, index in [("read nobody 0 0 1 1\n", 0), (good + "silent nobody 0 0 1 2\n", 1),
                            ("above tank nobody 0 0 1\n", 0), ("above nobody tank 0 0 1\n", 0),
                            ("above tank tank 0 0 1\n", 0), ("read tank 1 0 1 1\n", 0), ("read tank 0 11 1 1\n", 0),
                            ("read tank -1 0 1 1\n", 0), (good + good + "read tank 0 0 2 1\n", 2),
                            ("silent tank 0 0 1 1\n", 0), (good * 9, 8), (good * 8 + "read nobody 0 0 1 1\n", 8)]:
            with self.subTest(rest), self.assertRaises(BadFact) as caught:
                Book.of_text(levels + rest)
            self.assertEqual(caught.exception.index, index)

    def test_behind_the_errors_of_the_text(self):
        for text, line in [("frame 10 0 0 100\nlevel tank", 2), (self.START + "level tank\nlevel tank\nnothing\n", 4),
                           (self.START + self.LEVEL + "read nobody 0 0 1 1\nlevel b\n", 5),
                           (self.START + "read nobody 0 0 1 1\nread nobody 0 0 1\n", 3)]:
            with self.subTest(text), self.assertRaises(BadText) as caught:
                Book.of_text(text)
            self.assertEqual(caught.exception.line, line)


if __name__ == "__main__":
    unittest.main()
