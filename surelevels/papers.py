"""The lowest and the highest history of a book, and papers that show that there is none."""

from surelevels.chains import Reader
from surelevels.errors import HasHistory
from surelevels.kinds import is_list
from surelevels.lines import Line
from surelevels.nets import Net, mirrored
from surelevels.proofs import Proof, fitting_proof
from surelevels.spans import least_line


def lowest(book):
    """The history that fits a book and is nowhere above another one that does."""
    least = fitting_proof(Net(book)).least
    return [least_line(least, level) for level in range(len(book.names()))]


def highest(book):
    """The history that fits a book and is nowhere below another one that does."""
    return [Line([(moment, -height) for moment, height in line.points()]) for line in lowest(mirrored(book))]


def is_fit(book):
    """Whether some history fits a book."""
    return Proof(Net(book)).last is None


def paper(book):
    """A paper that shows that no history fits a book."""
    proof = Proof(Net(book))
    if proof.last is None:
        raise HasHistory()
    return [*proof.raises, proof.last]


def is_paper(book, thing):
    """Whether a thing is a paper for a book."""
    if not is_list(thing) or len(thing) == 0:
        return False
    reader = Reader(book)
    for part in thing[:-1]:
        if not reader.takes_raise(part):
            return False
    return reader.takes_last(thing[-1])
