"""The least heights of a net, and the chains by which they came."""

from surelevels.exacts import plain


class Trail:
    """The way of a chain: its first step, the places that it goes by, and by how much it ends above a mark.

    Each place is a row (level, end, path): the path has the ABOVE facts by
    which it was reached from the place ahead of it, none for a run; it is None
    for the first place.
    """

    def __init__(self, first, places, excess):
        self.first = first
        self.places = places
        self.excess = excess

    def chain(self, moments):
        """The chain, for a net with these moments."""
        steps = [self.first]
        for level, end, path in self.places[1:]:
            if len(path) == 0 and steps[-1][0] == "run":
                # The run goes on: one step leads to where both would.
                steps.pop()
            if len(path) == 0:
                steps.append(("run", plain(moments[end])))
            else:
                steps.extend([("above", index) for index in path])
        return steps


class Least:
    """The least heights of all levels at all ends that keep all chains.

    A place is a pair of a level and an end. Some SILENT facts, as rows of the
    net, can be raised: their level is not below their high. All heights keep to
    the chains only; whether they are too high is for others to see.
    """

    def __init__(self, net, raised=()):
        self.net = net
        self.floors = [list(row) for row in net.floors]
        self.heights = [row[::2] for row in net.floors]
        # The way by which a height came: the level and the end that it came
        # from and the ABOVE facts that led here, none for a run; None at a floor.
        self.ways = [[None for height in row] for row in self.heights]
        self.raised = []
        self.grown = None
        self.ring = None
        for mark in raised:
            self.lift_floor(mark)
        self.settle()

    def lift_floor(self, mark):
        """Raises a fact: its level is not below its high."""
        index, level, first, last, low, high = mark
        self.raised.append(mark)
        for slot in self.net.slots(first, last):
            if self.floors[level][slot] < high:
                self.floors[level][slot] = high
        for end in range(first, last + 1):
            self.grow(level, end, high, None)

    def settle(self):
        """Carries heights on until none grows any more."""
        left = len(self.heights) * len(self.net.moments)
        self.sweep()
        # A chain without a ring passes each place once, so growing goes on
        # for longer than that only if there is a ring.
        while self.grown is not None and left > 0:
            self.sweep()
            left -= 1
        self.ring = self.grown

    def sweep(self):
        """Carries heights once from the first end to the last one, and back."""
        self.grown = None
        ends = range_of(self.net.moments)
        self.lift(0)
        for end in ends[1:]:
            self.run(end - 1, end, self.net.falls, end - 1)
            self.lift(end)
        for end in ends[-2::-1]:
            self.run(end + 1, end, self.net.rises, end)
            self.lift(end)

    def run(self, since, until, drops, span):
        """Carries the heights of all levels from one end to a neighbouring one."""
        for level in range_of(self.heights):
            self.grow(level, until, self.heights[level][since] - drops[level][span], (level, since, ()))

    def lift(self, end):
        """Carries the heights at an end from level to level."""
        for one, other, gain, path in self.net.lifts[2 * end]:
            self.grow(other, end, self.heights[one][end] + gain, (one, end, path))

    def grow(self, level, end, height, way):
        """Notes a height and its way, if it is above what was known."""
        if self.heights[level][end] < height:
            self.heights[level][end] = height
            self.ways[level][end] = way
            self.grown = (level, end)

    def end_above(self, level, first, last, height):
        """The first one of some ends at which a level is above a height, or None."""
        for end in range(first, last + 1):
            if self.heights[level][end] > height:
                return end
        return None

    def pieces(self, level, span):
        """The straight lines, as heights at both ends of a span, the greatest of which is the least line."""
        found = self.own_pieces(level, span)
        for one, other, gain, path in self.net.lifts[2 * span + 1]:
            if other == level:
                found.extend([(since + gain, until + gain) for since, until in self.own_pieces(one, span)])
        return found

    def own_pieces(self, level, span):
        """Those of the straight lines that do not come from other levels."""
        since, until = self.heights[level][span:span + 2]
        floor = self.floors[level][2 * span + 1]
        return [(since, since - self.net.falls[level][span]), (until - self.net.rises[level][span], until),
                (floor, floor)]

    def trail_above(self, level, first, last, mark):
        """The trail to the first one of some ends at which a level is above a mark, or None."""
        end = self.end_above(level, first, last, mark)
        if end is None:
            return None
        places = self.places_to((level, end), None)
        return Trail(self.source(places[0]), places, self.heights[level][end] - mark)

    def ring_trail(self):
        """The trail round a ring, if there is one."""
        begin = self.ring
        # The place that grew last may only hang on the ring: so far back it is on it.
        for back in range(len(self.heights) * len(self.net.moments)):
            begin = self.way_to(begin)[:2]
        places = self.places_to(begin, begin)
        first = ("from", self.net.words[begin[0]], plain(self.net.moments[begin[1]]))
        return Trail(first, places, self.net.gained(places) - self.net.lost(places))

    def places_to(self, place, begin):
        """The rows of a trail to a place: from another place on, or from a floor for None."""
        rows = []
        way = self.way_to(place)
        while way is not None and (len(rows) == 0 or place != begin):
            rows.append((*place, way[2]))
            place = way[:2]
            way = self.way_to(place)
        rows.append((*place, None))
        return rows[::-1]

    def way_to(self, place):
        """The way by which the height of a place came, or None."""
        level, end = place
        return self.ways[level][end]

    def source(self, place):
        """The first step of a chain: where the height of a floor comes from."""
        level, end, path = place
        moment = plain(self.net.moments[end])
        floor = self.floors[level][2 * end]
        for index, name, first, last, low, high in self.net.reads:
            if name == level and first <= end <= last and low == floor:
                return ("read", index, moment)
        for index, name, first, last, low, high in self.raised:
            if name == level and first <= end <= last and high == floor:
                return ("raised", index, moment)
        return ("bottom", self.net.words[level], moment)


def range_of(things):
    """The list of the places of some things."""
    return list(range(len(things)))
