"""Books: a frame, one to three levels with their rates, and facts."""

from surelevels.errors import BadFact, BadFrame, BadLevel, BadPlace
from surelevels.exacts import is_number, plain
from surelevels.kinds import is_among, is_list, is_whole, is_word
from surelevels.texts import rows_of, text_of

MOST_LEVELS = 3
MOST_RATES = 3
MOST_FACTS = 8
FACT_PARTS = 6


class Book:
    """What is known of some levels: how fast they move, and facts."""

    def __init__(self, start, end, bottom, top, levels, facts=()):
        self.bounds = checked_frame((start, end, bottom, top))
        self.tracks = checked_levels(levels, self.bounds)
        self.rows = checked_facts(facts, self.names(), self.bounds)

    def __len__(self):
        return len(self.rows)

    def __iter__(self):
        return iter(self.rows)

    def __eq__(self, other):
        return (isinstance(other, Book) and self.bounds == other.bounds
                and self.tracks == other.tracks and self.rows == other.rows)

    def frame(self):
        """The tuple (start, end, bottom, top)."""
        return copied(self.bounds)

    def levels(self):
        """The levels: pairs of a name and a list of rates."""
        return [(name, [copied(rate) for rate in rates]) for name, rates in self.tracks]

    def facts(self):
        """The facts as tuples."""
        return [copied(fact) for fact in self.rows]

    def names(self):
        """The names of the levels."""
        return [track[0] for track in self.tracks]

    def further(self, facts):
        """The book with further facts behind its own."""
        if not is_list(facts):
            raise BadFact(len(self.rows))
        return self.with_facts((*self.rows, *facts))

    def without(self, index):
        """The book without one of its facts."""
        if not is_whole(index) or not 0 <= index < len(self.rows):
            raise BadPlace(index)
        return self.with_facts(self.rows[:index] + self.rows[index + 1:])

    def with_facts(self, facts):
        """The book with other facts in the place of its own."""
        start, end, bottom, top = self.bounds
        return Book(start, end, bottom, top, self.tracks, facts)

    def text(self):
        """The book as a text, each line with a line feed."""
        rows = [("frame", *self.bounds)]
        for name, rates in self.tracks:
            rows.append(("level", name))
            rows.extend([("rate", *rate) for rate in rates])
        rows.extend(self.rows)
        return text_of(rows)

    @staticmethod
    def of_text(text):
        """The book with this text."""
        rows = rows_of(text)
        start, end, bottom, top = rows[0][1:]
        levels = []
        facts = []
        for row in rows[1:]:
            if row[0] == "level":
                levels.append((row[1], []))
            elif row[0] == "rate":
                levels[-1][1].append(row[1:])
            else:
                facts.append(row)
        return Book(start, end, bottom, top, levels, facts)


def copied(row):
    """The tuple of a row of words and numbers, its numbers as results."""
    return tuple([plain(part) if is_number(part) else part for part in row])


def are_numbers(things):
    """Whether all of some things are numbers."""
    return all([is_number(thing) for thing in things])


def checked_frame(things):
    """The frame of four things, as a tuple."""
    start, end, bottom, top = things
    if not are_numbers(things) or start >= end or bottom >= top:
        raise BadFrame()
    return copied(things)


def checked_levels(things, bounds):
    """The levels that are passed, as a tuple of pairs with tuples of rates."""
    if not is_list(things) or len(things) == 0:
        raise BadLevel(0)
    levels = []
    names = []
    for index, thing in enumerate(things):
        level = level_of(thing, bounds)
        if index >= MOST_LEVELS or level is None or level[0] in names:
            raise BadLevel(index)
        levels.append(level)
        names.append(level[0])
    return tuple(levels)


def level_of(thing, bounds):
    """The level that a thing is, or None if it is none."""
    if not is_list(thing) or len(thing) != 2:
        return None
    name, things = thing
    rates = rates_of(things, bounds)
    if rates is None or not is_word(name):
        return None
    return name, rates


def rates_of(things, bounds):
    """The rates that are passed, as a tuple of triples, or None if they are none."""
    if not is_list(things) or not 1 <= len(things) <= MOST_RATES:
        return None
    rates = []
    since, end = bounds[:2]
    for thing in things:
        if not is_rate(thing, since):
            return None
        rate = copied(thing)
        rates.append(rate)
        since = rate[0]
    return tuple(rates) if since == end else None


def is_rate(thing, since):
    """Whether a thing is a triple of rates from a moment on."""
    if not is_list(thing) or len(thing) != 3 or not are_numbers(thing):
        return False
    until, rise, fall = thing
    return since < until and rise >= 0 and fall >= 0


def checked_facts(things, names, bounds):
    """The facts that are passed, as a tuple of tuples."""
    if not is_list(things):
        raise BadFact(0)
    facts = []
    for index, thing in enumerate(things):
        if index >= MOST_FACTS or not is_fact(thing, names, bounds):
            raise BadFact(index)
        facts.append(copied(thing))
    return tuple(facts)


def is_fact(thing, names, bounds):
    """Whether a thing is a fact about the levels with these names."""
    if not is_list(thing) or len(thing) != FACT_PARTS:
        return False
    return is_marked(thing, names, bounds) or is_above(thing, names, bounds)


def is_marked(things, names, bounds):
    """Whether six things are a READ or a SILENT fact, one with two marks."""
    kind, name, a, b, low, high = things
    if not is_among(kind, ("read", "silent")) or not is_among(name, names):
        return False
    if not is_stretch(a, b, bounds) or not are_numbers((low, high)):
        return False
    return low < high or (kind == "read" and low == high)


def is_above(things, names, bounds):
    """Whether six things are an ABOVE fact."""
    kind, one, other, a, b, gap = things
    if not is_among(kind, ("above",)) or not is_among(one, names) or not is_among(other, names):
        return False
    return one != other and is_stretch(a, b, bounds) and is_number(gap)


def is_stretch(a, b, bounds):
    """Whether two things are the first and the last moment of a stretch."""
    start, end = bounds[:2]
    return are_numbers((a, b)) and start <= a <= b <= end
