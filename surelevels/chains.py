"""Chains and papers as others pass them: what they show, if they are some."""

from surelevels.exacts import is_number
from surelevels.kinds import is_among, is_list, is_whole
from surelevels.rates import drop, stages_of


class Reader:
    """Reads the parts of what may be a paper for a book, from the first one on."""

    def __init__(self, book):
        self.start, self.end, self.bottom, self.top = book.frame()
        self.rates = stages_of(book)
        self.rows = book.facts()
        self.raised = []

    def takes_raise(self, part):
        """Whether a thing is a part that raises a fact; if so, the fact is raised from now on."""
        if not is_list(part) or len(part) != 3 or not is_among(part[0], ("raise",)):
            return False
        fact = self.fact_of("silent", part[1])
        if fact is None or part[1] in self.raised or not self.exceeds(part[2], fact, fact[4]):
            return False
        self.raised.append(part[1])
        return True

    def takes_last(self, part):
        """Whether a thing is a part that shows that no history fits."""
        if not is_list(part) or len(part) == 0:
            return False
        if is_among(part[0], ("ring",)):
            return len(part) == 2 and self.is_ring(part[1])
        return len(part) == 3 and is_among(part[0], ("pass",)) and self.passes(part[1], part[2])

    def passes(self, index, chain):
        """Whether a chain ends above the high of the READ fact with this index, or above top for None."""
        if index is None:
            place = self.sure_end(chain)
            return place is not None and place[2] > self.top
        fact = self.fact_of("read", index)
        return fact is not None and self.exceeds(chain, fact, fact[5])

    def exceeds(self, chain, fact, height):
        """Whether a chain ends at the level of a fact, in its stretch, above a height."""
        place = self.sure_end(chain)
        return place is not None and place[0] == fact[1] and fact[2] <= place[1] <= fact[3] and place[2] > height

    def is_ring(self, chain):
        """Whether a chain leads from a level at a moment to greater heights there."""
        place = self.end_of(chain)
        if place is None or not is_among(chain[0][0], ("from",)):
            return False
        return place[0] == chain[0][1] and place[1] == chain[0][2] and place[2] > 0

    def sure_end(self, chain):
        """The end of a chain that starts from something sure, or None."""
        place = self.end_of(chain)
        return None if place is None or is_among(chain[0][0], ("from",)) else place

    def end_of(self, chain):
        """The level, the moment and the height to which a chain leads, or None if it is none."""
        if not is_list(chain) or len(chain) == 0:
            return None
        place = self.begin(chain[0])
        for step in chain[1:]:
            if place is None:
                return None
            place = self.follow(place, step)
        return place

    def begin(self, step):
        """Where a first step leads, or None if it is none."""
        if not is_list(step) or len(step) != 3 or not self.is_moment(step[2]):
            return None
        kind, thing, moment = step
        if is_among(kind, ("bottom", "from")):
            height = self.bottom if kind == "bottom" else 0
            return (thing, moment, height) if is_among(thing, self.rates) else None
        if is_among(kind, ("read", "raised")):
            return self.begin_at_fact(kind, thing, moment)
        return None

    def begin_at_fact(self, kind, index, moment):
        """Where a first step from a READ or a raised fact leads, or None if it is none."""
        fact = self.fact_of("read" if kind == "read" else "silent", index)
        if fact is None or (kind == "raised" and index not in self.raised):
            return None
        if not fact[2] <= moment <= fact[3]:
            return None
        return (fact[1], moment, fact[4] if kind == "read" else fact[5])

    def follow(self, place, step):
        """Where a further step from a place leads, or None if it is none."""
        if not is_list(step) or len(step) != 2:
            return None
        name, moment, height = place
        if is_among(step[0], ("run",)):
            if not self.is_moment(step[1]) or step[1] == moment:
                return None
            return (name, step[1], height - drop(self.rates[name], moment, step[1]))
        fact = self.fact_of("above", step[1]) if is_among(step[0], ("above",)) else None
        if fact is None or fact[1] != name or not fact[3] <= moment <= fact[4]:
            return None
        return (fact[2], moment, height + fact[5])

    def is_moment(self, thing):
        """Whether a thing is a moment of the frame."""
        return is_number(thing) and self.start <= thing <= self.end

    def fact_of(self, kind, index):
        """The fact of a kind with an index, which may be any object, or None."""
        if not is_whole(index) or not 0 <= index < len(self.rows):
            return None
        fact = self.rows[index]
        return fact if fact[0] == kind else None
