"""What happens between two neighbouring ends, where all is made of straight pieces.

A piece is a pair of its heights at both ends of a span, in whole units.
"""

from surelevels.exacts import Exact, plain
from surelevels.lines import Line
from surelevels.orders import common, joined, overlap


class Share:
    """A part of a span from 0 to 1; not reduced, as that takes long and few of them get into results."""

    def __init__(self, over, under):
        self.over = over
        self.under = under

    def __lt__(self, other):
        return self.over * other.under < other.over * self.under

    def __le__(self, other):
        return self.over * other.under <= other.over * self.under


def moment_of(net, span, share):
    """The moment at which a share of a span is over."""
    since, until = net.moments[span:span + 2]
    if share.over == 0:
        return plain(since)
    return plain(since + (until - since) * Exact(share.over, share.under))


def least_history(least):
    """The least lines of all levels."""
    return [least_line(least, level) for level in range(len(least.net.words))]


def least_line(least, level):
    """The least line of a level."""
    net = least.net
    points = []
    for end, height in enumerate(least.heights[level]):
        points.append((net.moments[end], net.exact(height)))
        if end + 1 < len(net.moments):
            points.extend(bends(least, level, end))
    return Line(points)


def bends(least, level, span):
    """The points inside a span at which the least line of a level bends."""
    pieces = least.pieces(level, span)
    piece = first_piece(pieces)
    found = []
    following = next_piece(pieces, piece)
    while following is not None:
        found.append(crossing_point(least.net, span, piece, following))
        piece = following
        following = next_piece(pieces, piece)
    return found


def first_piece(pieces):
    """The piece that is the greatest one right behind the first end."""
    best = pieces[0]
    for piece in pieces:
        if best < piece:
            best = piece
    return best


def next_piece(pieces, piece):
    """The piece that is the greatest one behind a greatest one, or None if that is so up to the last end."""
    best = None
    for other in pieces:
        if other[1] > piece[1] and (best is None or is_sooner(piece, other, best)):
            best = other
    return best


def is_sooner(piece, one, other):
    """Whether one of two pieces is the next one behind a piece; of those that cross it at once, the steeper one."""
    mine = crossing(piece, one)
    yours = crossing(piece, other)
    if mine < yours:
        return True
    return mine <= yours and one[1] > other[1]


def crossing(piece, other):
    """The share at which a piece that begins higher is crossed by one that ends higher."""
    gap = piece[0] - other[0]
    return Share(gap, gap + other[1] - piece[1])


def crossing_point(net, span, piece, other):
    """The point at which a piece is crossed by another one."""
    share = crossing(piece, other)
    height = net.exact(piece[0]) + net.exact(piece[1] - piece[0]) * Exact(share.over, share.under)
    return (moment_of(net, span, share), height)


def below(piece, height):
    """The stretch of shares at which a piece is not above a height, or None."""
    since, until = piece
    if since > height and until > height:
        return None
    first = Share(0, 1)
    last = Share(1, 1)
    if since > height:
        first = Share(since - height, since - until)
    if until > height:
        last = Share(height - since, until - since)
    return (first, last)


def above(piece, height):
    """The stretch of shares at which a piece is not below a height, or None."""
    return below((-piece[0], -piece[1]), -height)


def all_below(pieces, height):
    """The stretch of shares at which no piece is above a height, or None."""
    stretch = (Share(0, 1), Share(1, 1))
    for piece in pieces:
        part = below(piece, height)
        if part is not None:
            part = overlap(stretch, part)
        if part is None:
            return None
        stretch = part
    return stretch


def some_above(pieces, height):
    """The stretches of shares at which some piece is not below a height."""
    parts = [above(piece, height) for piece in pieces]
    return joined([part for part in parts if part is not None])


def stays_above(least, level, first, last, height):
    """Whether the least line of a level is nowhere below a height, in whole units, from one end to another one."""
    if any([least.heights[level][end] < height for end in range(first, last + 1)]):
        return False
    # Each end of a span is in one of the stretches, so they are one just if nothing between is below.
    return all([len(some_above(least.pieces(level, span), height)) == 1 for span in range(first, last)])


def possible_stretches(pairs, level, low, high):
    """The stretches of moments at which a level can be from low to high, in whole units.

    Each pair is what the heights are between in one case: the least heights,
    and those of the mirrored book.
    """
    net = pairs[0][0].net
    found = []
    for span in range(len(net.moments) - 1):
        parts = [possible_part(least, most, level, span, low, high) for least, most in pairs]
        found.extend(exact_parts(net, span, joined([part for part in parts if part is not None])))
    return joined(found)


def possible_part(least, most, level, span, low, high):
    """The stretch of shares of a span at which a level can be from low to high in one case, or None."""
    one = all_below(least.pieces(level, span), high)
    other = all_below(most.pieces(level, span), -low)
    if one is None or other is None:
        return None
    return overlap(one, other)


def sure_stretches(least, most, level, low, high):
    """The stretches of moments at which a level is surely from low to high, in whole units."""
    found = []
    for span in range(len(least.net.moments) - 1):
        parts = common(some_above(least.pieces(level, span), low), some_above(most.pieces(level, span), -high))
        found.extend(exact_parts(least.net, span, parts))
    return joined(found)


def exact_parts(net, span, parts):
    """Stretches of shares of a span as stretches of moments."""
    return [(moment_of(net, span, first), moment_of(net, span, last)) for first, last in parts]
