"""Questions about one level or two levels of a book, at one moment or at all of them."""

from surelevels.errors import BadHeight, BadMoment, UnknownLevel
from surelevels.exacts import is_number
from surelevels.kinds import is_among
from surelevels.leasts import Least
from surelevels.orders import joined
from surelevels.proofs import cases, fitting_proof, nets_of
from surelevels.spans import possible_stretches, sure_stretches


def heights(book, name, moment):
    """The stretches of all heights that a level can have at a moment."""
    level = level_of(book, name)
    check_moment(book, moment)
    net, mirror = nets_of(book, [moment])
    end = net.moments.index(moment)
    found = [(least.heights[level][end], -most.heights[level][end]) for least, most in cases(net, mirror)]
    return exact_stretches(net, found)


def moments(book, name, height):
    """The stretches of all moments at which a level can have a height."""
    level = level_of(book, name)
    check_height(height)
    net, mirror = nets_of(book, (), [height])
    whole = net.scaled(height)
    return possible_stretches(cases(net, mirror), level, whole, whole)


def within(book, name, low, high):
    """The stretches of all moments at which a level surely is from low to high, and at which it can be."""
    level = level_of(book, name)
    check_height(low)
    check_height(high)
    if high < low:
        raise BadHeight(high)
    net, mirror = nets_of(book, (), [low, high])
    pairs = cases(net, mirror)
    least = fitting_proof(net).least
    most = fitting_proof(mirror).least
    sure = sure_stretches(least, most, level, net.scaled(low), net.scaled(high))
    return (sure, possible_stretches(pairs, level, net.scaled(low), net.scaled(high)))


def passed(book, name):
    """The stretch of all heights that a level has at some moment whatever happened, or None."""
    level = level_of(book, name)
    net, mirror = nets_of(book)
    low = greatest(fitting_proof(mirror).least.heights[level])
    high = greatest(fitting_proof(net).least.heights[level])
    return (net.exact(-low), net.exact(high)) if -low <= high else None


def differences(book, one, other, moment):
    """The stretches of all differences, height of other less height of one, that there can be at a moment."""
    first, second = pair_of(book, one, other)
    check_moment(book, moment)
    net, mirror = nets_of(book, [moment])
    end = net.moments.index(moment)
    found = [(least_difference(least, most, first, second, end), -least_difference(least, most, second, first, end))
             for least, most in cases(net, mirror)]
    return exact_stretches(net, found)


def level_of(book, name):
    """The place of the level with a name."""
    if not is_among(name, book.names()):
        raise UnknownLevel(name)
    return book.names().index(name)


def pair_of(book, one, other):
    """The places of two unlike levels with two names."""
    pair = (level_of(book, one), level_of(book, other))
    if one == other:
        raise UnknownLevel(other)
    return pair


def check_moment(book, moment):
    """Raises BadMoment for what is no moment of the frame."""
    start, end = book.frame()[:2]
    if not is_number(moment) or not start <= moment <= end:
        raise BadMoment(moment)


def check_height(height):
    """Raises BadHeight for what is no height."""
    if not is_number(height):
        raise BadHeight(height)


def greatest(wholes):
    """The greatest one of some whole numbers."""
    best = wholes[0]
    for whole in wholes:
        if whole > best:
            best = whole
    return best


def exact_stretches(net, stretches):
    """Stretches of heights in whole units as they are returned."""
    return [(net.exact(low), net.exact(high)) for low, high in joined(stretches)]


def least_difference(least, most, one, other, end):
    """The least difference, height of other less height of one, at an end in one case.

    It is there when one is as high as it can be and other as low as it can be then.
    """
    height = -most.heights[one][end]
    # A row as that of a fact that is raised: one is not below this height at this end.
    raised = Least(least.net, [*least.raised, (None, one, end, end, None, height)])
    return raised.heights[other][end] - height
