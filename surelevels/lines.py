"""Lines, the courses of levels, and whether such a history fits a book."""

from surelevels.books import copied
from surelevels.errors import BadLine, BadMoment, BadPoint
from surelevels.exacts import is_number, plain, quotient
from surelevels.kinds import is_list
from surelevels.orders import greater, lesser, merged
from surelevels.rates import stages_of


class Line:
    """The course of one level: straight from each of its points to the next one."""

    def __init__(self, points):
        self.spots = bent(checked_points(points))

    def __call__(self, moment):
        if not is_number(moment) or not self.spots[0][0] <= moment <= self.spots[-1][0]:
            raise BadMoment(moment)
        return plain(heights_at(self.spots, [moment])[0])

    def __eq__(self, other):
        return isinstance(other, Line) and self.spots == other.spots

    def points(self):
        """The points at which the line begins, bends and ends."""
        return [copied(spot) for spot in self.spots]

    def is_below(self, other):
        """Whether the line is nowhere above another one."""
        return all([mine <= yours for moment, mine, yours in beside(self, other)])

    def lower(self, other):
        """The line of the lower heights of this line and another one."""
        return Line([(moment, lesser(mine, yours)) for moment, mine, yours in beside(self, other)])

    def upper(self, other):
        """The line of the greater heights of this line and another one."""
        return Line([(moment, greater(mine, yours)) for moment, mine, yours in beside(self, other)])


def checked_points(things):
    """The points that are passed, as a list of pairs."""
    if not is_list(things) or len(things) == 0:
        raise BadPoint(0)
    spots = []
    for index, thing in enumerate(things):
        if not is_point(thing) or (index > 0 and thing[0] <= spots[-1][0]):
            raise BadPoint(index)
        spots.append(copied(thing))
    if len(spots) == 1:
        raise BadPoint(1)
    return spots


def is_point(thing):
    """Whether a thing is a pair of numbers."""
    return is_list(thing) and len(thing) == 2 and is_number(thing[0]) and is_number(thing[1])


def bent(spots):
    """The points without those at which the line goes straight on."""
    kept = [spots[0]]
    for spot, following in zip(spots[1:], spots[2:]):
        if not is_straight(kept[-1], spot, following):
            kept.append(spot)
    return [*kept, spots[-1]]


def is_straight(one, two, three):
    """Whether the second of three points stands straight between the others."""
    ahead = (two[1] - one[1]) * (three[0] - two[0])
    behind = (three[1] - two[1]) * (two[0] - one[0])
    return ahead == behind


def heights_at(spots, moments):
    """The heights of a line at some rising moments."""
    heights = []
    at = 1
    for moment in moments:
        while spots[at][0] < moment:
            at += 1
        heights.append(height_between(spots[at - 1], spots[at], moment))
    return heights


def height_between(one, other, moment):
    """The height at a moment on the straight way between two points."""
    since, height = one
    until, last = other
    if height == last or moment == since:
        return height
    if moment == until:
        return last
    return height + quotient((last - height) * (moment - since), until - since)


def beside(line, other):
    """A row (moment, height, other height) wherever one of two lines bends or they cross."""
    if not is_match(line, other):
        raise BadLine(other)
    moments = merged(moments_of(line.spots), moments_of(other.spots))
    rows = list(zip(moments, heights_at(line.spots, moments), heights_at(other.spots, moments)))
    found = [rows[0]]
    for row, following in zip(rows, rows[1:]):
        found.extend(crossings(row, following))
        found.append(following)
    return found


def is_match(line, other):
    """Whether a thing is a line with the first and the last moment of another one."""
    return isinstance(other, Line) and spans(other, line.spots[0][0], line.spots[-1][0])


def spans(line, start, end):
    """Whether a line goes from one moment to another one."""
    return line.spots[0][0] == start and line.spots[-1][0] == end


def moments_of(spots):
    """The moments of some points."""
    return [spot[0] for spot in spots]


def crossings(row, following):
    """The row at which two lines cross between two rows, in a list, or none."""
    gap = row[1] - row[2]
    rest = following[1] - following[2]
    if gap * rest >= 0:
        return []
    share = quotient(gap, gap - rest)
    height = row[1] + share * (following[1] - row[1])
    return [(row[0] + share * (following[0] - row[0]), height, height)]


def fits(book, lines):
    """Whether a thing is a list of lines, one for each level, that fits a book."""
    start, end, bottom, top = book.frame()
    if not is_history(lines, len(book.names()), start, end):
        return False
    courses = {name: line.spots for name, line in zip(book.names(), lines)}
    if not all([bottom <= spot[1] <= top for name in book.names() for spot in courses[name]]):
        return False
    rates = stages_of(book)
    return (all([keeps_rates(courses[name], rates[name]) for name in book.names()])
            and all([holds(fact, courses) for fact in book.facts()]))


def is_history(thing, many, start, end):
    """Whether a thing is a list of so many lines from one moment to another one."""
    if not is_list(thing) or len(thing) != many:
        return False
    return all([isinstance(line, Line) and spans(line, start, end) for line in thing])


def keeps_rates(spots, rates):
    """Whether a line rises and falls no faster than the rates of its level let it."""
    for since, until, rise, fall in rates:
        moments = moments_within(spots, since, until)
        rows = list(zip(moments, heights_at(spots, moments)))
        for row, following in zip(rows, rows[1:]):
            time = following[0] - row[0]
            if not -fall * time <= following[1] - row[1] <= rise * time:
                return False
    return True


def moments_within(spots, since, until):
    """Two moments, which may be the same one, and those between them at which a line bends."""
    inner = [moment for moment in moments_of(spots) if since < moment < until]
    return [since, *inner, until] if since < until else [since]


def holds(fact, courses):
    """Whether a fact holds for the lines of the levels."""
    if fact[0] == "above":
        return holds_above(fact, courses)
    kind, name, a, b, low, high = fact
    heights = heights_at(courses[name], moments_within(courses[name], a, b))
    if kind == "read":
        return all([low <= height <= high for height in heights])
    # A line cannot get from low to high without being between them.
    return all([height <= low for height in heights]) or all([height >= high for height in heights])


def holds_above(fact, courses):
    """Whether an ABOVE fact holds for the lines of the levels."""
    kind, one, other, a, b, gap = fact
    moments = merged(moments_within(courses[one], a, b), moments_within(courses[other], a, b))
    rows = list(zip(heights_at(courses[one], moments), heights_at(courses[other], moments)))
    return all([height + gap <= above for height, above in rows])
