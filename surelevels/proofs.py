"""Proofs: what must hold of the levels of a book, and which cases its SILENT facts leave."""

from surelevels.errors import Unfit
from surelevels.leasts import Least
from surelevels.nets import mirrored, net_of


class Proof:
    """The least heights of all histories that fit a net, and the paper that leads to them.

    The parts of the paper have trails in the place of chains. Its raises are
    the parts that raise facts; its last part shows that no history fits, and is
    None if one does.
    """

    def __init__(self, net):
        self.least = Least(net)
        self.raises = []
        self.last = self.closing()
        while self.last is None and self.raises_one():
            self.last = self.closing()

    def closing(self):
        """The part that shows that no history fits, or None if none is found."""
        least = self.least
        if least.ring is not None:
            return ("ring", least.ring_trail())
        for index, level, first, last, low, high in least.net.reads:
            trail = least.trail_above(level, first, last, high)
            if trail is not None:
                return ("pass", index, trail)
        return self.closing_at_top()

    def closing_at_top(self):
        """The part that shows that a level would be above top, or None if none would."""
        net = self.least.net
        for level in range(len(net.words)):
            trail = self.least.trail_above(level, 0, len(net.moments) - 1, net.top)
            if trail is not None:
                return ("pass", None, trail)
        return None

    def raises_one(self):
        """Raises a fact whose level is above its low; tells whether there was one."""
        least = self.least
        for mark in least.net.silents:
            index, level, first, last, low, high = mark
            trail = None if mark in least.raised else least.trail_above(level, first, last, low)
            if trail is not None:
                self.raises.append(("raise", index, trail))
                least.lift_floor(mark)
                least.settle()
                return True
        return False


def nets_of(book, moments=(), heights=()):
    """The net of a book and that of its mirror."""
    net = net_of(book, moments, heights)
    return (net, mirrored(net))


def fitting_proof(net):
    """The proof of a net that some history fits."""
    proof = Proof(net)
    if proof.last is not None:
        raise Unfit()
    return proof


def cases(net, mirror):
    """For each way to be above or below the SILENT facts that fits: the least heights, and those of the mirror."""
    # Else there would be no case, which takes longer to see: this raises Unfit at once.
    fitting_proof(net)
    found = []
    for choice in choices(len(net.silents)):
        least = Least(net, chosen(net.silents, choice, True))
        if is_fitting(least, chosen(net.silents, choice, False)):
            found.append((least, Least(mirror, chosen(mirror.silents, choice, False))))
    return found


def choices(many):
    """All lists of so many times True or False."""
    found = [[]]
    for number in range(many):
        found = [[*choice, raised] for choice in found for raised in (False, True)]
    return found


def chosen(marks, choice, raised):
    """The facts for which a choice says True, or those for which it says False."""
    return [mark for mark, value in zip(marks, choice) if value == raised]


def is_fitting(least, lowered):
    """Whether least heights are below all that they must not be above, if some SILENT facts are not raised."""
    net = least.net
    marks = [(mark, mark[5]) for mark in net.reads] + [(mark, mark[4]) for mark in lowered]
    if any([least.end_above(mark[1], mark[2], mark[3], height) is not None for mark, height in marks]):
        return False
    last = len(net.moments) - 1
    return all([least.end_above(level, 0, last, net.top) is None for level in range(len(net.words))])
