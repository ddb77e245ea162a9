"""The kinds of things that callers pass: integers, lists and words."""

LONGEST_WORD = 8


def is_whole(thing):
    """Whether a thing is an integer; True and False are none here."""
    return isinstance(thing, int) and not isinstance(thing, bool)


def is_list(thing):
    """Whether a thing is a list; a tuple means the same."""
    return isinstance(thing, (list, tuple))


def is_word(thing):
    """Whether a thing is a string of one to eight letters from a to z."""
    if not isinstance(thing, str) or len(thing) > LONGEST_WORD:
        return False
    return thing.isascii() and thing.isalpha() and thing.islower()


def is_among(thing, words):
    """Whether a thing, which may be any object, is one of some words."""
    return isinstance(thing, str) and thing in words
