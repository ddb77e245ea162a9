"""Promises 6 and 7: numbers, their operators and their texts."""

import operator
import random
import unittest
from fractions import Fraction

from surelevels.errors import BadPart, BadText
from surelevels.exacts import Exact, plain
from tests.things import no_numbers

HUGE = 10 ** 59 + 7
OTHER_HUGE = 10 ** 60 - 1

VALUES = [Fraction(0), Fraction(1), Fraction(-1), Fraction(3), Fraction(-3), Fraction(1, 2), Fraction(-1, 2),
          Fraction(3, 2), Fraction(2, 3), Fraction(-7, 5), Fraction(HUGE), Fraction(-HUGE), Fraction(HUGE, OTHER_HUGE),
          Fraction(-OTHER_HUGE, HUGE), Fraction(1, OTHER_HUGE), Fraction(OTHER_HUGE, 2)]


def exact(value):
    return Exact(value.numerator, value.denominator)


def forms(value):
    """All numbers of the package with a value: an Exact, and an integer if it is whole."""
    return [exact(value)] + ([value.numerator] if value.denominator == 1 else [])


def pairs():
    """Pairs of values, with all pairs of their forms of which one is an Exact."""
    drawn = random.Random(7)
    values = VALUES + [Fraction(drawn.randint(-40, 40), drawn.randint(1, 12)) for _ in range(12)]
    for one in values:
        for other in values:
            for a in forms(one):
                for b in forms(other):
                    if isinstance(a, Exact) or isinstance(b, Exact):
                        yield one, other, a, b


class Made(unittest.TestCase):
    def check(self, number, over, under):
        self.assertIs(type(number), Exact)
        self.assertEqual((type(number.over), type(number.under)), (int, int))
        self.assertEqual((number.over, number.under), (over, under))

    def test_reduced_with_positive_under(self):
        self.check(Exact(3, 2), 3, 2)
        self.check(Exact(6, 4), 3, 2)
        self.check(Exact(-6, 4), -3, 2)
        self.check(Exact(6, -4), -3, 2)
        self.check(Exact(-6, -4), 3, 2)
        self.check(Exact(4, 2), 2, 1)
        self.check(Exact(2, 4), 1, 2)
        self.check(Exact(5), 5, 1)
        self.check(Exact(-5), -5, 1)
        self.check(Exact(5, -1), -5, 1)

    def test_nought(self):
        self.check(Exact(0), 0, 1)
        self.check(Exact(0, 9), 0, 1)
        self.check(Exact(0, -9), 0, 1)

    def test_sixty_digits(self):
        self.check(Exact(HUGE * 2, OTHER_HUGE * 2), HUGE, OTHER_HUGE)
        self.check(Exact(OTHER_HUGE, OTHER_HUGE), 1, 1)
        self.check(Exact(-OTHER_HUGE, 1 - OTHER_HUGE), OTHER_HUGE, OTHER_HUGE - 1)

    def test_like_fractions(self):
        for over in range(-13, 14):
            for under in list(range(-13, 0)) + list(range(1, 14)):
                value = Fraction(over, under)
                self.check(Exact(over, under), value.numerator, value.denominator)

    def test_by_names(self):
        self.check(Exact(over=6, under=4), 3, 2)
        self.check(Exact(6, under=4), 3, 2)
        self.check(Exact(over=6), 6, 1)

    def test_wrong_parts(self):
        for thing in no_numbers() + [Exact(3), Exact(3, 2)]:
            for wrong, found in [((thing,), thing), ((thing, 2), thing), ((1, thing), thing), ((thing, 0), thing),
                                 ((0, thing), thing)]:
                with self.subTest(wrong=wrong):
                    with self.assertRaises(BadPart) as caught:
                        Exact(*wrong)
                    self.assertIs(caught.exception.part, found)

    def test_first_wrong_part(self):
        for first in no_numbers():
            for second in no_numbers():
                with self.assertRaises(BadPart) as caught:
                    Exact(first, second)
                self.assertIs(caught.exception.part, first)

    def test_under_of_nought(self):
        for over in (0, 1, -3, HUGE):
            with self.assertRaises(BadPart) as caught:
                Exact(over, 0)
            self.assertIs(type(caught.exception.part), int)
            self.assertEqual(caught.exception.part, 0)
        with self.assertRaises(BadPart) as caught:
            Exact(over="1", under=0)
        self.assertEqual(caught.exception.part, "1")


class Arithmetic(unittest.TestCase):
    def check(self, result, value):
        self.assertIs(type(result), Exact)
        self.assertEqual((result.over, result.under), (value.numerator, value.denominator))

    def test_sums_differences_products(self):
        for one, other, a, b in pairs():
            self.check(a + b, one + other)
            self.check(a - b, one - other)
            self.check(a * b, one * other)

    def test_quotients(self):
        for one, other, a, b in pairs():
            if isinstance(a, Exact) and other != 0:
                self.check(a.by(b), one / other)
                self.check(a.by(other=b), one / other)

    def test_negatives(self):
        for value in VALUES:
            self.check(-exact(value), -value)

    def test_operands_are_left_alone(self):
        a, b = Exact(3, 4), Exact(-5, 6)
        for result in (a + b, a - b, a * b, -a, a.by(b), a + 1, 1 - a, 2 * a):
            self.assertIsNot(result, a)
        self.assertEqual((a.over, a.under, b.over, b.under), (3, 4, -5, 6))

    def test_results_can_be_passed_on(self):
        number = Exact(OTHER_HUGE, HUGE)
        value = Fraction(OTHER_HUGE, HUGE)
        for _ in range(6):
            number, value = number * number + 1, value * value + 1
        self.check(number, value)

    def test_wrong_operands(self):
        for sign in (operator.add, operator.sub, operator.mul):
            for number in (Exact(3), Exact(-3, 2), Exact(0)):
                for thing in no_numbers():
                    for a, b in ((number, thing), (thing, number)):
                        with self.subTest(sign=sign, a=a, b=b):
                            with self.assertRaises(BadPart) as caught:
                                sign(a, b)
                            self.assertIs(caught.exception.part, thing)

    def test_wrong_divisors(self):
        nought = Exact(0)
        for thing in no_numbers() + [0, nought]:
            for number in (Exact(3), Exact(-3, 2), Exact(0)):
                with self.subTest(thing=thing), self.assertRaises(BadPart) as caught:
                    number.by(thing)
                self.assertIs(caught.exception.part, thing)


class Comparisons(unittest.TestCase):
    def test_values(self):
        for one, other, a, b in pairs():
            for sign in (operator.eq, operator.ne, operator.lt, operator.le, operator.gt, operator.ge):
                result = sign(a, b)
                self.assertIs(type(result), bool)
                self.assertEqual(result, sign(one, other), (sign, one, other))

    def test_unreduced_is_equal(self):
        self.assertTrue(Exact(2, 4) == Exact(-1, -2))
        self.assertTrue(Exact(4, 2) == 2)
        self.assertTrue(2 == Exact(4, 2))
        self.assertFalse(Exact(4, 2) != 2)

    def test_unequal_to_all_others(self):
        for thing in no_numbers():
            for number in (Exact(3), Exact(1), Exact(0), Exact(3, 2)):
                with self.subTest(thing=thing):
                    self.assertIs(number == thing, False)
                    self.assertIs(thing == number, False)
                    self.assertIs(number != thing, True)
                    self.assertIs(thing != number, True)

    def test_wrong_operands(self):
        for sign in (operator.lt, operator.le, operator.gt, operator.ge):
            for number in (Exact(3), Exact(1), Exact(0), Exact(-3, 2)):
                for thing in no_numbers():
                    for a, b in ((number, thing), (thing, number)):
                        with self.subTest(sign=sign, a=a, b=b):
                            with self.assertRaises(BadPart) as caught:
                                sign(a, b)
                            self.assertIs(caught.exception.part, thing)


class Texts(unittest.TestCase):
    def test_texts(self):
        for text, number in [("3", Exact(3)), ("-3", Exact(-3)), ("3/2", Exact(3, 2)), ("-3/2", Exact(3, -2)),
                             ("0", Exact(0, -7)), ("2", Exact(4, 2)), ("10/3", Exact(20, 6)),
                             (str(OTHER_HUGE), Exact(OTHER_HUGE)), ("-" + str(HUGE), Exact(-HUGE)),
                             (f"{HUGE}/{OTHER_HUGE}", Exact(HUGE, OTHER_HUGE)), (f"-1/{HUGE}", Exact(1, -HUGE))]:
            with self.subTest(text):
                self.assertEqual(number.text(), text)
                again = Exact.of_text(text)
                self.assertIs(type(again), Exact)
                self.assertEqual((again.over, again.under), (number.over, number.under))

    def test_there_and_back(self):
        for value in VALUES:
            self.assertEqual(exact(value).text(), str(value))
            self.assertEqual(Exact.of_text(text=str(value)), exact(value))

    def test_digits_in_pieces(self):
        for count in (1, 59, 60, 63, 64, 65, 127, 128, 129, 200):
            for whole in (10 ** count, 10 ** count - 1, 10 ** count + 10 ** (count // 2)):
                self.assertEqual(Exact(whole).text(), str(whole))
                self.assertEqual(Exact.of_text("-" + str(whole)).over, -whole)
                self.assertEqual(Exact(1 - 2 * whole, 2).text(), f"{1 - 2 * whole}/2")

    def test_long_results_have_texts(self):
        number = Exact(10)
        for _ in range(13):
            number = number * number
        text = "1" + "0" * 8192
        self.assertEqual(number.text(), text)
        self.assertEqual(Exact.of_text(text), number)
        self.assertEqual(Exact.of_text("-1/" + text), -Exact(1).by(number))

    def test_texts_of_no_number(self):
        for text in ["", " ", "-", "+", "/", "-/", "3/", "/2", "-/2", "3//2", "3/2/1", "03", "-03", "00", "-0", "+3",
                     "--3", "3-", "- 3", " 3", "3 ", "3\n", "\n3", "3 /2", "3/ 2", "3 / 2", "3/-2", "3/+2", "-3/-2",
                     "3/1", "0/1", "0/5", "-0/5", "2/4", "6/4", "-6/4", "3/0", "0/0", "3/02", "03/2", "3.0", "1.5",
                     "1e3", "1_000", "0x3", "three", "3a", "a3", "\u0663", "\u00b2", "\uff13", "\u22123", "3\u20442",
                     "3/\u0662", "3\x00", "None", "True", "1,5", "3\r", "3\t", str(OTHER_HUGE) + " ",
                     f"{2 * HUGE}/{2 * OTHER_HUGE}", f"0{HUGE}", "3/" + "0" * 70, "0" * 70, "0" * 64 + "3"]:
            with self.subTest(text):
                with self.assertRaises(BadText) as caught:
                    Exact.of_text(text)
                self.assertEqual(caught.exception.line, 1)
                self.assertIs(type(caught.exception.line), int)

    def test_no_texts(self):
        for thing in (None, True, 3, Exact(3), b"3", ["3"], {}):
            with self.subTest(thing=thing), self.assertRaises(BadText):
                Exact.of_text(thing)


class Plain(unittest.TestCase):
    def test_whole(self):
        for number, whole in [(3, 3), (0, 0), (-HUGE, -HUGE), (Exact(3), 3), (Exact(8, -4), -2), (Exact(0, 5), 0),
                              (Exact(OTHER_HUGE), OTHER_HUGE)]:
            result = plain(number)
            self.assertIs(type(result), int)
            self.assertEqual(result, whole)

    def test_fractions(self):
        for number in (Exact(3, 2), Exact(-3, 2), Exact(HUGE, OTHER_HUGE)):
            result = plain(number=number)
            self.assertIs(type(result), Exact)
            self.assertEqual((result.over, result.under), (number.over, number.under))

    def test_no_numbers(self):
        for thing in no_numbers():
            with self.subTest(thing=thing), self.assertRaises(BadPart) as caught:
                plain(thing)
            self.assertIs(caught.exception.part, thing)

    def test_later_changes(self):
        number = Exact(3, 2)
        result = plain(number)
        number.over = 5
        self.assertEqual(result, Exact(3, 2))


if __name__ == "__main__":
    unittest.main()
