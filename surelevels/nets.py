"""Nets: a book at its ends, in whole numbers."""

from surelevels.books import Book
from surelevels.exacts import Exact, divisor, parts, plain
from surelevels.orders import in_order
from surelevels.rates import drop, stages_of


class Net:
    """A book at its ends, with all heights as whole numbers of one small unit.

    The ends are counted from 0 on, and so are the spans between neighbouring
    ones. The slots are both in their order: slot 2 * k is the end k, slot
    2 * k + 1 all that is between the ends k and k + 1. Further moments and
    heights that are asked about can be made ends and whole, too.
    """

    def __init__(self, book, moments=(), heights=()):
        self.words = book.names()
        self.moments = ends_of(book, moments)
        self.unit = unit_of(book, self.moments, heights)
        self.bottom, self.top = [self.scaled(height) for height in book.frame()[2:]]
        self.falls = self.drops(book, 0, 1)
        self.rises = self.drops(book, 1, 0)
        self.reads = self.marks(book, "read")
        self.silents = self.marks(book, "silent")
        self.aboves = self.gaps(book)
        self.floors = self.floors_below()
        self.lifts = [lifts_at(self.aboves, slot) for slot in self.slots(0, len(self.moments) - 1)]

    def scaled(self, height):
        """A height in the unit."""
        over, under = parts(height)
        return over * (self.unit // under)

    def exact(self, height):
        """A height in the unit as a result."""
        return height if self.unit == 1 else plain(Exact(height, self.unit))

    def slots(self, first, last):
        """The slots from one end to another one."""
        return list(range(2 * first, 2 * last + 1))

    def drops(self, book, since, until):
        """For each level how much it falls at most from one end (0 or 1) of each span to the other one."""
        pairs = list(zip(self.moments, self.moments[1:]))
        return [[self.scaled(drop(rates, pair[since], pair[until])) for pair in pairs]
                for rates in list(stages_of(book).values())]

    def marks(self, book, kind):
        """The facts of a kind with two marks, as rows (index, level, first end, last end, low, high)."""
        return [(index, self.words.index(fact[1]), self.moments.index(fact[2]), self.moments.index(fact[3]),
                 self.scaled(fact[4]), self.scaled(fact[5]))
                for index, fact in enumerate(book.facts()) if fact[0] == kind]

    def gaps(self, book):
        """The ABOVE facts as rows (index, one, other, first end, last end, gap)."""
        return [(index, self.words.index(fact[1]), self.words.index(fact[2]), self.moments.index(fact[3]),
                 self.moments.index(fact[4]), self.scaled(fact[5]))
                for index, fact in enumerate(book.facts()) if fact[0] == "above"]

    def floors_below(self):
        """For each level and slot the height below which bottom and the READ facts do not let it be."""
        slots = self.slots(0, len(self.moments) - 1)
        floors = [[self.bottom for slot in slots] for word in self.words]
        for index, level, first, last, low, high in self.reads:
            for slot in self.slots(first, last):
                if floors[level][slot] < low:
                    floors[level][slot] = low
        return floors


def ends_of(book, moments):
    """The ends of a book and some further moments, in order."""
    start, end = book.frame()[:2]
    found = [start, end, *moments]
    for name, rates in book.levels():
        found.extend([rate[0] for rate in rates])
    for fact in book.facts():
        found.extend(fact[3:5] if fact[0] == "above" else fact[2:4])
    return in_order(found)


def unit_of(book, moments, heights):
    """How many units are 1, so that all heights at the ends are whole."""
    marks = [*book.frame()[2:], *heights]
    for fact in book.facts():
        marks.extend(fact[5:] if fact[0] == "above" else fact[4:])
    speeds = [speed for name, rates in book.levels() for rate in rates for speed in rate[1:]]
    return common_multiple(common_under(marks), common_under(moments) * common_under(speeds))


def common_under(numbers):
    """The least under that all of some numbers can have."""
    under = 1
    for number in numbers:
        under = common_multiple(under, parts(number)[1])
    return under


def common_multiple(one, other):
    """The least common multiple of two integers above 0."""
    return one // divisor(one, other) * other


def lifts_at(aboves, slot):
    """What the ABOVE facts say in a slot: rows (one, other, gain, indices of the facts that lead there)."""
    best = {}
    for index, one, other, first, last, gap in aboves:
        if 2 * first <= slot <= 2 * last:
            keep_greater(best, (one, other), gap, (index,))
    direct = list(best.items())
    # Three levels at most: what leads over more than one level between is a ring.
    for (one, middle), (gap, path) in direct:
        for (begin, other), (rest, further) in direct:
            if middle == begin and one != other:
                keep_greater(best, (one, other), gap + rest, path + further)
    return [(one, other, gain, path) for (one, other), (gain, path) in best.items()]


def keep_greater(best, pair, gain, path):
    """Notes a gain and its path for a pair of levels, if it has no greater one."""
    if pair not in best or best[pair][0] < gain:
        best[pair] = (gain, path)


def mirrored(book):
    """The book of all heights below nought: what is highest in the one is lowest in the other."""
    start, end, bottom, top = book.frame()
    levels = [(name, [(until, fall, rise) for until, rise, fall in rates]) for name, rates in book.levels()]
    return Book(start, end, -top, -bottom, levels, [mirrored_fact(fact) for fact in book.facts()])


def mirrored_fact(fact):
    """The fact about heights below nought that a fact is."""
    if fact[0] == "above":
        kind, one, other, a, b, gap = fact
        return (kind, other, one, a, b, gap)
    kind, name, a, b, low, high = fact
    return (kind, name, a, b, -high, -low)
