"""Dials: nets that depend on a number, and the least number from which on some history fits them.

No chain of a dial's net gets higher as the number grows, so what is too high
for a number is not so for greater ones only from some number on.
"""

from surelevels.exacts import Exact
from surelevels.nets import retuned
from surelevels.proofs import Proof


class PaceDial:
    """A net with all rises and falls multiplied by a number, from 0 on."""

    def __init__(self, net):
        self.net = net

    def tuned(self, number):
        """The net for a number."""
        return retuned(self.net, number.under, number.over)

    def slope(self, trail):
        """How much lower, in the unit of the net, a trail ends for each 1 by which the number grows."""
        return self.net.lost(trail.places)


class GapDial:
    """A net with one more ABOVE fact, whose gap is a number in the unit of the net below nought."""

    def __init__(self, net, index, levels, ends):
        self.net = net
        self.index = index
        self.row = (index, *levels, *ends)

    def tuned(self, number):
        """The net for a number."""
        return retuned(self.net, number.under, number.under, [(*self.row, -number.over)])

    def slope(self, trail):
        """How much lower, in the unit of the net, a trail ends for each 1 by which the number grows."""
        return sum([path.count(self.index) for level, end, path in trail.places[1:]])


def least_number(dial, number):
    """The pair of the least number, from one on, for which a history fits, and the proof then; or None."""
    proof = Proof(dial.tuned(number))
    while proof.last is not None:
        number = number_behind(dial, number, proof)
        if number is None:
            return None
        proof = Proof(dial.tuned(number))
    return (number, proof)


def number_behind(dial, number, proof):
    """The least number for which the paper of a proof, that for another one, shows nothing any more, or None.

    It shows nothing any more as soon as one of its trails does not end above its mark.
    """
    best = None
    for part in [*proof.raises, proof.last]:
        trail = part[-1]
        slope = dial.slope(trail)
        if slope > 0:
            # The excess is counted in the unit of the tuned net; at 0 it is whole in that of the dial's net.
            excess = (trail.excess + number.over * slope) // number.under
            if best is None or excess * best[1] < best[0] * slope:
                best = (excess, slope)
    return None if best is None else Exact(best[0], best[1])
