"""Rates: how much a level may rise and fall between two moments."""

from surelevels.orders import greater, lesser


def stages_of(book):
    """The rates of each level, by its name, as rows (since, until, rise, fall)."""
    return {name: stages(book.frame()[0], rates) for name, rates in book.levels()}


def stages(start, rates):
    """The rates of one level as rows (since, until, rise, fall)."""
    rows = []
    since = start
    for until, rise, fall in rates:
        rows.append((since, until, rise, fall))
        since = until
    return rows


def drop(rows, since, until):
    """How much lower a level may be at a moment than it was at another one.

    For a moment ahead of the other one that is what it may rise in between.
    """
    low = lesser(since, until)
    high = greater(since, until)
    total = 0
    for begin, finish, rise, fall in rows:
        first = greater(begin, low)
        last = lesser(finish, high)
        if first < last:
            total = total + (last - first) * (fall if since < until else rise)
    return total
