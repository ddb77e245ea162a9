"""Numbers: integers, and fractions without any rounding."""

from surelevels.errors import BadPart, BadText
from surelevels.kinds import is_whole

# Python refuses to turn integers of some thousands of digits into strings and
# back, so long ones go piece by piece: PIECE digits each, which count to ROUND.
PIECE = 64
ROUND = 10 ** 64


class Exact:
    """A fraction, kept reduced and with a positive under."""

    def __init__(self, over, under=1):
        for part in (over, under):
            if not is_whole(part):
                raise BadPart(part)
        if under == 0:
            raise BadPart(under)
        shared = divisor(abs(over), abs(under))
        if under < 0:
            shared = -shared
        self.over = over // shared
        self.under = under // shared

    def __add__(self, other):
        over, under = parts(other)
        return Exact(self.over * under + over * self.under, self.under * under)

    def __radd__(self, other):
        return self + other

    def __sub__(self, other):
        over, under = parts(other)
        return Exact(self.over * under - over * self.under, self.under * under)

    def __rsub__(self, other):
        over, under = parts(other)
        return Exact(over * self.under - self.over * under, self.under * under)

    def __mul__(self, other):
        over, under = parts(other)
        return Exact(self.over * over, self.under * under)

    def __rmul__(self, other):
        return self * other

    def __neg__(self):
        return Exact(-self.over, self.under)

    def __eq__(self, other):
        return is_number(other) and parts(other) == (self.over, self.under)

    def __lt__(self, other):
        over, under = parts(other)
        return self.over * under < over * self.under

    def __le__(self, other):
        over, under = parts(other)
        return self.over * under <= over * self.under

    def __gt__(self, other):
        over, under = parts(other)
        return self.over * under > over * self.under

    def __ge__(self, other):
        over, under = parts(other)
        return self.over * under >= over * self.under

    def by(self, other):
        """The quotient of this number by another one."""
        over, under = parts(other)
        if over == 0:
            raise BadPart(other)
        return Exact(self.over * under, self.under * over)

    def text(self):
        """The number as a text: "3", "-3" or "3/2"."""
        return number_text(self)

    @staticmethod
    def of_text(text):
        """The number with this text."""
        number = exact_of(text)
        if number is None:
            raise BadText(1)
        return number


def divisor(one, other):
    """The greatest common divisor of two integers from 0 on."""
    while other != 0:
        one, other = other, one % other
    return one


def is_number(thing):
    """Whether a thing is an integer or a fraction."""
    return is_whole(thing) or isinstance(thing, Exact)


def parts(number):
    """The pair of over and under of a number."""
    if isinstance(number, Exact):
        return number.over, number.under
    if is_whole(number):
        return number, 1
    raise BadPart(number)


def plain(number):
    """A number as results are returned: an integer if it is whole."""
    over, under = parts(number)
    if under == 1:
        return over
    # A new one: nobody who holds the number passed can change the one returned.
    return Exact(over, under)


def quotient(one, other):
    """The quotient of two numbers, the second of them not 0, as a result."""
    over, under = parts(one)
    below, above = parts(other)
    return plain(Exact(over * above, under * below))


def number_text(number):
    """The text of an integer or a fraction."""
    over, under = parts(number)
    sign = "-" if over < 0 else ""
    below = "" if under == 1 else "/" + digits_of(under)
    return sign + digits_of(abs(over)) + below


def exact_of(text):
    """The fraction with this text, or None if there is none."""
    if not isinstance(text, str):
        return None
    above, stroke, below = text.partition("/")
    digits = above.removeprefix("-")
    if stroke == "":
        below = "1"
    if not is_digits(digits) or not is_digits(below):
        return None
    over = whole_of(digits)
    under = whole_of(below)
    if under == 0:
        return None
    number = Exact(-over if above.startswith("-") else over, under)
    # Each number has one text only: "03", "-0", "2/4" and "3/1" are no texts.
    return number if number.text() == text else None


def is_digits(text):
    """Whether a text consists of one or more digits from 0 to 9."""
    return text.isascii() and text.isdigit()


def digits_of(whole):
    """The digits of an integer from 0 on."""
    pieces = []
    while whole >= ROUND:
        whole, last = divmod(whole, ROUND)
        pieces.append(str(last).zfill(PIECE))
    pieces.append(str(whole))
    return "".join(reversed(pieces))


def whole_of(digits):
    """The integer with these digits."""
    first = len(digits) % PIECE
    whole = int("0" + digits[:first])
    for at in range(first, len(digits), PIECE):
        whole = whole * ROUND + int(digits[at:at + PIECE])
    return whole
