"""How far a level can have stayed below another one, and how fast the levels must have been."""

from surelevels.asks import check_moment, pair_of
from surelevels.dials import GapDial, PaceDial, least_number
from surelevels.errors import BadMoment
from surelevels.exacts import Exact, plain, quotient
from surelevels.nets import net_of
from surelevels.proofs import fitting_proof
from surelevels.spans import least_history


def greatest_gap(book, one, other, a, b):
    """The greatest gap that there can be throughout from one level to another one, and the lowest history then."""
    pair = pair_of(book, one, other)
    check_stretch(book, a, b)
    gap, proof = widest(fitting_net(book, a, b), len(book), pair, a, b)
    return (gap, least_history(proof.least))


def surely_equal(book, one, other, a, b):
    """Whether two levels have equal heights at some moment of a stretch in every history that fits."""
    pair = pair_of(book, one, other)
    check_stretch(book, a, b)
    net = fitting_net(book, a, b)
    # Levels that are nowhere equal stay strictly one above the other, as they go without jumps.
    return widest(net, len(book), pair, a, b)[0] <= 0 and widest(net, len(book), pair[::-1], a, b)[0] <= 0


def least_factor(book):
    """The least number by which all rises and falls can be multiplied so that a history fits, or None."""
    found = least_number(PaceDial(net_of(book)), Exact(0))
    return None if found is None else plain(found[0])


def check_stretch(book, a, b):
    """Raises BadMoment for what is no first and no last moment of a stretch."""
    check_moment(book, a)
    check_moment(book, b)
    if b < a:
        raise BadMoment(b)


def fitting_net(book, a, b):
    """The net of a book that some history fits, with two moments as ends."""
    net = net_of(book, [a, b])
    fitting_proof(net)
    return net


def widest(net, index, pair, a, b):
    """The greatest gap throughout between two levels of a net, and the proof then; the index is that of a new fact."""
    dial = GapDial(net, index, pair, (net.moments.index(a), net.moments.index(b)))
    # No gap is greater than from bottom to top.
    number, proof = least_number(dial, Exact(net.bottom - net.top))
    return (quotient(-number, net.unit), proof)
