"""What is possible, found in another way than the package does it: all pairs of places, with Python's own fractions.

A place is a level at a moment; place 0 is the ground, whose height is 0. A matrix tells for all pairs of places by how
much the second one is at least higher than the first one; a ring in it with a sum above 0 means that nothing fits.
"""

from fractions import Fraction
from itertools import product
from math import lcm

from surelevels.exacts import Exact


def fraction(number):
    return Fraction(number.over, number.under) if isinstance(number, Exact) else Fraction(number)


def fractions(thing):
    """A thing with Python's own fractions in the place of all numbers."""
    if isinstance(thing, (list, tuple)):
        return type(thing)(fractions(part) for part in thing)
    return fraction(thing) if isinstance(thing, (int, Exact)) else thing


def exact(number):
    """A fraction of Python's as a number of the package."""
    return Exact(number.numerator, number.denominator)


def ends(book):
    """The ends of a book as fractions, in order."""
    start, end = book.frame()[:2]
    found = {fraction(start), fraction(end)}
    for _, rates in book.levels():
        found |= {fraction(rate[0]) for rate in rates}
    for fact in book.facts():
        found |= {fraction(moment) for moment in stretch_of(fact)}
    return sorted(found)


def stretch_of(fact):
    """The first and the last moment of the stretch of a fact."""
    return fact[3:5] if fact[0] == "above" else fact[2:4]


class Oracle:
    """A book with some more moments to ask about: a matrix for each way to take the silent facts that fits.

    Further facts, however many, may be added to it, and all rates multiplied by a factor.
    """

    def __init__(self, book, more=(), further=(), factor=1):
        self.frame = fractions(book.frame())
        self.levels = {name: [(until, rise * factor, fall * factor) for until, rise, fall in rates]
                       for name, rates in fractions(book.levels())}
        self.facts = fractions(book.facts() + list(further))
        asked = {fraction(moment) for moment in [*more, *[moment for fact in further for moment in stretch_of(fact)]]}
        self.moments = sorted(set(ends(book)) | asked)
        self.places = [None] + [(name, moment) for name in self.levels for moment in self.moments]
        self.at = {place: index for index, place in enumerate(self.places)}
        self.scale = self.common_under()
        silents = [fact for fact in self.facts if fact[0] == "silent"]
        common = self.common_matrix()
        self.matrices = []
        for choice in product((False, True), repeat=len(silents)):
            matrix = [list(row) for row in common]
            for fact, is_high in zip(silents, choice):
                for place in self.covered(fact[1], fact[2], fact[3]):
                    if is_high:
                        self.note(matrix, 0, place, fact[5])
                    else:
                        self.note(matrix, place, 0, -fact[4])
            if close(matrix):
                self.matrices.append(matrix)

    def common_under(self):
        """The matrices hold whole numbers, which takes less time: so many of them are 1."""
        marks = [*self.frame[2:], *[mark for fact in self.facts for mark in fact if isinstance(mark, Fraction)]]
        marks += [rate * (until - since) for rates in self.levels.values() for _, *pair in rates for rate in pair
                  for since, until in zip(self.moments, self.moments[1:])]
        return lcm(*[mark.denominator for mark in marks])

    def note(self, matrix, one, other, rise):
        whole = rise.numerator * (self.scale // rise.denominator)
        if matrix[one][other] is None or matrix[one][other] < whole:
            matrix[one][other] = whole

    def covered(self, name, a, b):
        return [self.at[name, moment] for moment in self.moments if a <= moment <= b]

    def common_matrix(self):
        start, end, bottom, top = self.frame
        matrix = [[None] * len(self.places) for _ in self.places]
        for place in range(1, len(self.places)):
            self.note(matrix, 0, place, bottom)
            self.note(matrix, place, 0, -top)
        for name, rates in self.levels.items():
            for since, until in zip(self.moments, self.moments[1:]):
                rise, fall = next(rate[1:] for rate in rates if until <= rate[0])
                one, other = self.at[name, since], self.at[name, until]
                self.note(matrix, one, other, -fall * (until - since))
                self.note(matrix, other, one, -rise * (until - since))
        for fact in self.facts:
            if fact[0] == "read":
                for place in self.covered(fact[1], fact[2], fact[3]):
                    self.note(matrix, 0, place, fact[4])
                    self.note(matrix, place, 0, -fact[5])
            if fact[0] == "above":
                for one, other in zip(self.covered(fact[1], *fact[3:5]), self.covered(fact[2], *fact[3:5])):
                    self.note(matrix, one, other, fact[5])
        return matrix

    def fits(self):
        return len(self.matrices) > 0

    def heights(self, name, moment):
        """The stretches of the possible heights."""
        at = self.at[name, fraction(moment)]
        return self.told((matrix[0][at], -matrix[at][0]) for matrix in self.matrices)

    def differences(self, one, other, moment):
        at, to = self.at[one, fraction(moment)], self.at[other, fraction(moment)]
        return self.told((matrix[at][to], -matrix[to][at]) for matrix in self.matrices)

    def told(self, stretches):
        """Stretches of whole numbers as fractions, those that touch as one."""
        return [(Fraction(low, self.scale), Fraction(high, self.scale)) for low, high in joined(stretches)]

    def lowest(self, name, moment):
        return self.heights(name, moment)[0][0]

    def highest(self, name, moment):
        return self.heights(name, moment)[-1][1]

    def history(self, source):
        """Any history that fits: for each level the points at all moments, which a random source chooses."""
        matrix = source.choice(self.matrices)
        known = {0: Fraction(0)}
        order = list(range(1, len(self.places)))
        source.shuffle(order)
        for place in order:
            low = max(known[at] + matrix[at][place] for at in known if matrix[at][place] is not None)
            high = min(known[at] - matrix[place][at] for at in known if matrix[place][at] is not None)
            share = source.choice((Fraction(0), Fraction(1), Fraction(source.randint(0, 6), 6)))
            known[place] = low + (high - low) * share
        return {name: [(moment, known[self.at[name, moment]] / self.scale) for moment in self.moments]
                for name in self.levels}

    def is_possible(self, name, moment, low, high):
        return any(least <= high and low <= most for least, most in self.heights(name, moment))

    def is_sure(self, name, moment, low, high):
        return low <= self.lowest(name, moment) and self.highest(name, moment) <= high


def close(matrix):
    """Makes a matrix tell the greatest sums over all ways; whether there is no ring above 0."""
    many = range(len(matrix))
    for middle in many:
        ahead = matrix[middle]
        for row in matrix:
            first = row[middle]
            if first is not None:
                for at in many:
                    if ahead[at] is not None and (row[at] is None or row[at] < first + ahead[at]):
                        row[at] = first + ahead[at]
    return all(matrix[at][at] is None or matrix[at][at] <= 0 for at in many)


def joined(stretches):
    found = []
    for low, high in sorted(stretches):
        if found and low <= found[-1][1]:
            found[-1] = (found[-1][0], max(high, found[-1][1]))
        else:
            found.append((low, high))
    return found


class Chains:
    """Follows the chains of a paper of the right form; asserts that each step is one."""

    def __init__(self, book):
        self.start, self.end, self.bottom, self.top = fractions(book.frame())
        self.levels = dict(fractions(book.levels()))
        self.facts = fractions(book.facts())
        self.raised = set()

    def moved(self, name, since, until):
        """How much a level loses from a moment to another one, moment by moment in small pieces."""
        assert since != until and self.start <= until <= self.end
        low, high = min(since, until), max(since, until)
        cuts = sorted({low, high} | {rate[0] for rate in self.levels[name] if low < rate[0] < high})
        lost = Fraction(0)
        for one, other in zip(cuts, cuts[1:]):
            rise, fall = next(rate[1:] for rate in self.levels[name] if (one + other) / 2 < rate[0])
            lost += (other - one) * (fall if since < until else rise)
        return lost

    def follow(self, chain):
        kind, thing, moment = chain[0]
        moment = fraction(moment)
        assert self.start <= moment <= self.end
        if kind in ("read", "raised"):
            fact = self.facts[thing]
            assert fact[0] == {"read": "read", "raised": "silent"}[kind] and fact[2] <= moment <= fact[3]
            assert kind == "read" or thing in self.raised
            name, height = fact[1], fact[4 if kind == "read" else 5]
        else:
            name, height = thing, {"bottom": self.bottom, "from": Fraction(0)}[kind]
        for kind, thing in chain[1:]:
            if kind == "run":
                height -= self.moved(name, moment, fraction(thing))
                moment = fraction(thing)
            else:
                one, other, a, b, gap = self.facts[thing][1:]
                assert kind == self.facts[thing][0] == "above" and one == name and a <= moment <= b
                name, height = other, height + gap
        return name, moment, height

    def ends_above(self, chain, fact, mark):
        name, moment, height = self.follow(chain)
        assert chain[0][0] != "from" and name == fact[1] and fact[2] <= moment <= fact[3] and height > mark

    def shows(self, paper):
        """Asserts that a paper is one."""
        for kind, index, chain in paper[:-1]:
            assert kind == "raise" and self.facts[index][0] == "silent" and index not in self.raised
            self.ends_above(chain, self.facts[index], self.facts[index][4])
            self.raised.add(index)
        kind, *rest = paper[-1]
        if kind == "ring":
            name, moment, height = self.follow(rest[0])
            assert rest[0][0] == ("from", name, exact(moment)) and height > 0
        elif rest[0] is None:
            assert kind == "pass" and rest[1][0][0] != "from" and self.follow(rest[1])[2] > self.top
        else:
            assert kind == "pass" and self.facts[rest[0]][0] == "read"
            self.ends_above(rest[1], self.facts[rest[0]], self.facts[rest[0]][5])
