"""The lowest and the highest history of a book, and papers that show that there is none."""

from surelevels.chains import Reader
from surelevels.errors import HasHistory
from surelevels.kinds import is_list
from surelevels.lines import Line
from surelevels.nets import mirrored, net_of
from surelevels.proofs import Proof, fitting_proof
from surelevels.spans import least_history


def lowest(book):
    """The history that fits a book and is nowhere above another one that does."""
    return least_history(fitting_proof(net_of(book)).least)


def highest(book):
    """The history that fits a book and is nowhere below another one that does."""
    lines = least_history(fitting_proof(mirrored(net_of(book))).least)
    return [Line([(moment, -height) for moment, height in line.points()]) for line in lines]


def is_fit(book):
    """Whether some history fits a book."""
    return Proof(net_of(book)).last is None


def paper(book):
    """A paper that shows that no history fits a book."""
    net = net_of(book)
    proof = Proof(net)
    if proof.last is None:
        raise HasHistory()
    return [(*part[:-1], part[-1].chain(net.moments)) for part in [*proof.raises, proof.last]]


def is_paper(book, thing):
    """Whether a thing is a paper for a book."""
    if not is_list(thing) or len(thing) == 0:
        return False
    reader = Reader(book)
    for part in thing[:-1]:
        if not reader.takes_raise(part):
            return False
    return reader.takes_last(thing[-1])
