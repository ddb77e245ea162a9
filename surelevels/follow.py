"""Facts that follow from a book, and those of a book that follow from the others."""

from surelevels.books import copied, is_fact
from surelevels.errors import BadFact, Unfit
from surelevels.proofs import cases, fitting_proof, nets_of
from surelevels.spans import stays_above


def follows(book, fact):
    """Whether a READ or a SILENT fact holds in all histories that fit a book."""
    if not is_fact(fact, book.names(), book.frame()) or fact[0] == "above":
        raise BadFact(0)
    try:
        return is_sure(book, copied(fact))
    except Unfit:
        return True


def needless(book):
    """The indices of the READ and SILENT facts of a book that follow from its other facts."""
    return [index for index, fact in enumerate(book.facts())
            if fact[0] != "above" and follows(book.without(index), fact)]


def is_sure(book, fact):
    """Whether a READ or a SILENT fact holds in all histories that fit a book, if there are any."""
    kind, name, a, b, low, high = fact
    net, mirror = nets_of(book, [a, b], [low, high])
    level = net.words.index(name)
    first = net.moments.index(a)
    last = net.moments.index(b)
    low = net.scaled(low)
    high = net.scaled(high)
    if kind == "read":
        return (stays_above(fitting_proof(net).least, level, first, last, low)
                and stays_above(fitting_proof(mirror).least, level, first, last, -high))
    # All that is between the lowest and the highest line of a case is possible in it: these keep to one side.
    return all([stays_above(most, level, first, last, -low) or stays_above(least, level, first, last, high)
                for least, most in cases(net, mirror)])
