"""Small random books; each source of random numbers has a seed, so they are the same in each run."""

from surelevels.books import Book
from surelevels.exacts import Exact


def number(source, low, high, unders=(1, 1, 1, 2, 3)):
    under = source.choice(unders)
    return Exact(source.randint(low * under, high * under), under)


def stretch(source, end):
    a, b = number(source, 0, end), number(source, 0, end)
    if source.random() < 0.4:
        return a, a
    return (a, b) if a <= b else (b, a)


def random_rates(source, end):
    untils = [number(source, 1, end - 1, (2, 3)) for _ in range(source.choice((0, 0, 1, 2)))]
    rising = []
    for until in untils:
        if until < end and all(earlier < until for earlier in rising):
            rising.append(until)
    return [(until, number(source, 0, 4), number(source, 0, 4)) for until in rising + [end]]


def random_book(source, silents=3, facts=6):
    """A book of one to three levels, with at most so many silent facts and so many facts in all."""
    names = ["a", "b", "c"][:source.randint(1, 3)]
    end = source.randint(2, 5)
    levels = [(name, random_rates(source, end)) for name in names]
    found = []
    for _ in range(source.randint(1, facts)):
        a, b = stretch(source, end)
        kind = source.choice(("read", "silent", "above"))
        if kind == "above" and len(names) > 1:
            found.append((kind, *source.sample(names, 2), a, b, number(source, -6, 3)))
        elif kind == "silent" and sum(fact[0] == kind for fact in found) < silents:
            low = number(source, -1, 12)
            found.append((kind, source.choice(names), a, b, low, low + number(source, 0, 5) + Exact(1, 2)))
        else:
            low = number(source, -1, 12)
            found.append(("read", source.choice(names), a, b, low, low + number(source, 0, 6)))
    return Book(0, end, 0, 12, levels, found)
