"""Numbers and stretches in order.

What is compared here need not be a number: anything with an order will do.
"""


def lesser(one, other):
    """The lesser of two numbers."""
    return one if one <= other else other


def greater(one, other):
    """The greater of two numbers."""
    return other if one <= other else one


def merged(ones, others):
    """Two rising lists as one; what stands in both stands there once."""
    rows = []
    at = 0
    to = 0
    while at < len(ones) and to < len(others):
        if others[to] < ones[at]:
            rows.append(others[to])
            to += 1
        else:
            if ones[at] == others[to]:
                to += 1
            rows.append(ones[at])
            at += 1
    return rows + ones[at:] + others[to:]


def in_order(numbers):
    """The list of some numbers in rising order, each once."""
    if len(numbers) < 2:
        return list(numbers)
    half = len(numbers) // 2
    return merged(in_order(numbers[:half]), in_order(numbers[half:]))


def joined(stretches):
    """Some stretches in rising order, those that touch as one."""
    rows = []
    for low, high in stretches:
        ahead = [row for row in rows if row[1] < low]
        behind = [row for row in rows if high < row[0]]
        for row in rows[len(ahead):len(rows) - len(behind)]:
            low = lesser(low, row[0])
            high = greater(high, row[1])
        rows = [*ahead, (low, high), *behind]
    return rows


def overlap(one, other):
    """The stretch that two stretches have in common, or None."""
    low = greater(one[0], other[0])
    high = lesser(one[1], other[1])
    return (low, high) if low <= high else None


def common(ones, others):
    """The stretches that two lists of stretches have in common."""
    found = [overlap(one, other) for one in ones for other in others]
    return joined([stretch for stretch in found if stretch is not None])
