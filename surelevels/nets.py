"""Nets: a book at its ends, in whole numbers."""

from surelevels.exacts import Exact, divisor, parts, plain
from surelevels.orders import in_order
from surelevels.rates import drop, stages_of


class Net:
    """A book at its ends, with all heights as whole numbers of one small unit.

    The ends are counted from 0 on, and so are the spans between neighbouring
    ones. The slots are both in their order: slot 2 * k is the end k, slot
    2 * k + 1 all that is between the ends k and k + 1. Falls and rises tell for
    each level how much it falls and rises at most in each span; reads and
    silents are rows (index, level, first end, last end, low, high), aboves
    are rows (index, one, other, first end, last end, gap).
    """

    def __init__(self, words, moments, unit, bounds, drops, marks, aboves):
        self.words = words
        self.moments = moments
        self.unit = unit
        self.bottom, self.top = bounds
        self.falls, self.rises = drops
        self.reads, self.silents = marks
        self.aboves = aboves
        self.floors = self.floors_below()
        self.lifts = [lifts_at(self.aboves, slot) for slot in self.slots(0, len(self.moments) - 1)]

    def scaled(self, height):
        """A height in the unit."""
        return whole_in(self.unit, height)

    def exact(self, height):
        """A height in the unit as a result."""
        return height if self.unit == 1 else plain(Exact(height, self.unit))

    def slots(self, first, last):
        """The slots from one end to another one."""
        return list(range(2 * first, 2 * last + 1))

    def lost(self, places):
        """How much height the runs of a trail with these places lose."""
        steps = list(zip(places, places[1:]))
        return sum([self.loss(level, since[1], end) for since, (level, end, path) in steps if len(path) == 0])

    def loss(self, level, since, until):
        """How much lower a level may be at an end than it is at a neighbouring one."""
        return self.falls[level][since] if since < until else self.rises[level][until]

    def gained(self, places):
        """How much height the ABOVE facts of a trail with these places add."""
        gaps = {row[0]: row[5] for row in self.aboves}
        return sum([gaps[index] for level, end, path in places[1:] for index in path])

    def floors_below(self):
        """For each level and slot the height below which bottom and the READ facts do not let it be."""
        slots = self.slots(0, len(self.moments) - 1)
        floors = [[self.bottom for slot in slots] for word in self.words]
        for index, level, first, last, low, high in self.reads:
            for slot in self.slots(first, last):
                if floors[level][slot] < low:
                    floors[level][slot] = low
        return floors


def net_of(book, moments=(), heights=()):
    """The net of a book; further moments and heights that are asked about can be made ends and whole, too."""
    ends = ends_of(book, moments)
    unit = unit_of(book, ends, heights)
    names = book.names()
    bounds = [whole_in(unit, height) for height in book.frame()[2:]]
    spans = list(zip(ends, ends[1:]))
    stages = list(stages_of(book).values())
    falls = [[whole_in(unit, drop(rates, since, until)) for since, until in spans] for rates in stages]
    rises = [[whole_in(unit, drop(rates, until, since)) for since, until in spans] for rates in stages]
    marks = [marks_of(book, kind, ends, unit) for kind in ("read", "silent")]
    return Net(names, ends, unit, bounds, (falls, rises), marks, gaps_of(book, ends, unit))


def marks_of(book, kind, ends, unit):
    """The rows of the facts of a kind with two marks."""
    names = book.names()
    return [(index, names.index(fact[1]), ends.index(fact[2]), ends.index(fact[3]),
             whole_in(unit, fact[4]), whole_in(unit, fact[5]))
            for index, fact in enumerate(book.facts()) if fact[0] == kind]


def gaps_of(book, ends, unit):
    """The rows of the ABOVE facts."""
    names = book.names()
    return [(index, names.index(fact[1]), names.index(fact[2]), ends.index(fact[3]), ends.index(fact[4]),
             whole_in(unit, fact[5]))
            for index, fact in enumerate(book.facts()) if fact[0] == "above"]


def whole_in(unit, height):
    """A height as a whole number of units, unit of which are 1."""
    over, under = parts(height)
    return over * (unit // under)


def ends_of(book, moments):
    """The ends of a book and some further moments, in order."""
    start, end = book.frame()[:2]
    found = [start, end, *moments]
    for name, rates in book.levels():
        found.extend([rate[0] for rate in rates])
    for fact in book.facts():
        found.extend(fact[3:5] if fact[0] == "above" else fact[2:4])
    return in_order(found)


def unit_of(book, moments, heights):
    """How many units are 1, so that all heights at the ends are whole."""
    marks = [*book.frame()[2:], *heights]
    for fact in book.facts():
        marks.extend(fact[5:] if fact[0] == "above" else fact[4:])
    speeds = [speed for name, rates in book.levels() for rate in rates for speed in rate[1:]]
    return common_multiple(common_under(marks), common_under(moments) * common_under(speeds))


def common_under(numbers):
    """The least under that all of some numbers can have."""
    under = 1
    for number in numbers:
        under = common_multiple(under, parts(number)[1])
    return under


def common_multiple(one, other):
    """The least common multiple of two integers above 0."""
    return one // divisor(one, other) * other


def lifts_at(aboves, slot):
    """What the ABOVE facts say in a slot: rows (one, other, gain, indices of the facts that lead there)."""
    best = {}
    for index, one, other, first, last, gap in aboves:
        if 2 * first <= slot <= 2 * last:
            keep_greater(best, (one, other), gap, (index,))
    direct = list(best.items())
    # Three levels at most: what leads over more than one level between is a ring.
    for (one, middle), (gap, path) in direct:
        for (begin, other), (rest, further) in direct:
            if middle == begin and one != other:
                keep_greater(best, (one, other), gap + rest, path + further)
    return [(one, other, gain, path) for (one, other), (gain, path) in best.items()]


def keep_greater(best, pair, gain, path):
    """Notes a gain and its path for a pair of levels, if it has no greater one."""
    if pair not in best or best[pair][0] < gain:
        best[pair] = (gain, path)


def mirrored(net):
    """The net of all heights below nought: what is highest in the one is lowest in the other."""
    marks = [[(*row[:4], -row[5], -row[4]) for row in rows] for rows in (net.reads, net.silents)]
    aboves = [(index, other, one, first, last, gap) for index, one, other, first, last, gap in net.aboves]
    return Net(net.words, net.moments, net.unit, (-net.top, -net.bottom), (net.rises, net.falls), marks, aboves)


def retuned(net, times, pace, further=()):
    """A net in a unit that is so many times smaller, with further rows of ABOVE facts in this unit.

    All that levels fall and rise is pace new units for each old one.
    """
    bounds = (net.bottom * times, net.top * times)
    drops = [[[loss * pace for loss in row] for row in rows] for rows in (net.falls, net.rises)]
    marks = [[(*row[:4], row[4] * times, row[5] * times) for row in rows] for rows in (net.reads, net.silents)]
    aboves = [(*row[:5], row[5] * times) for row in net.aboves]
    return Net(net.words, net.moments, net.unit * times, bounds, drops, marks, [*aboves, *further])
