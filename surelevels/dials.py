"""Dials: nets that depend on a number, and the least number for which some history fits them.

No chain of such a net gets higher as the number grows. So a paper that shows
for one number that no history fits shows it for all greater ones, too, up to
the one at which the first of its chains has sunk to its mark.
"""

from surelevels.exacts import Exact
from surelevels.nets import retuned
from surelevels.proofs import Proof


class PaceDial:
    """A net with all rises and falls multiplied by a number, from 0 on."""

    def __init__(self, net):
        self.net = net

    def tuned(self, number):
        """The net for a number."""
        return retuned(self.net, number.under, number.over)

    def slope(self, trail):
        """How much lower, in the unit of the net, a trail ends for each 1 by which the number grows."""
        return self.net.lost(trail.places)


class GapDial:
    """A net with one more ABOVE fact, whose gap is a number of units of the net below nought."""

    def __init__(self, net, index, levels, ends):
        self.net = net
        self.index = index
        self.row = (index, *levels, *ends)

    def tuned(self, number):
        """The net for a number."""
        return retuned(self.net, number.under, number.under, [(*self.row, -number.over)])

    def slope(self, trail):
        """How much lower, in the unit of the net, a trail ends for each 1 by which the number grows."""
        return sum([path.count(self.index) for level, end, path in trail.places[1:]])


def least_number(dial, number):
    """The least number, from one on, for which a history fits, and the proof then, as a pair; or None."""
    proof = Proof(dial.tuned(number))
    while proof.last is not None:
        number = number_behind(dial, number, proof)
        if number is None:
            return None
        proof = Proof(dial.tuned(number))
    return (number, proof)


def number_behind(dial, number, proof):
    """The number up to which the paper of a proof for a lesser one holds, or None if it holds for all."""
    best = None
    for part in [*proof.raises, proof.last]:
        trail = part[-1]
        slope = dial.slope(trail)
        if slope > 0:
            # In the unit of the dial's net, and for the number 0: then it is whole.
            excess = (trail.excess + number.over * slope) // number.under
            if best is None or excess * best[1] < best[0] * slope:
                best = (excess, slope)
    return None if best is None else Exact(best[0], best[1])
