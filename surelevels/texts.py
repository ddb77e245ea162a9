"""The texts of books: rows of words and numbers, a line for each."""

from surelevels.errors import BadText
from surelevels.exacts import exact_of, number_text
from surelevels.kinds import is_word

# What stands in a line behind its first word: "w" for a word, "n" for a number.
FORMS = {
    "frame": "nnnn",
    "level": "w",
    "rate": "nnn",
    "read": "wnnnn",
    "silent": "wnnnn",
    "above": "wwnnn",
}


def text_of(rows):
    """The text with these rows."""
    return "".join([line_of(row) for row in rows])


def line_of(row):
    """The line of a row, with its line feed."""
    return " ".join([word_of(part) for part in row]) + "\n"


def word_of(part):
    """The part of a row as it stands in a line."""
    return part if isinstance(part, str) else number_text(part)


def rows_of(text):
    """The rows of a text, in the order in which a book has them."""
    if not isinstance(text, str):
        raise BadText(1)
    *lines, rest = text.split("\n")
    rows = []
    ahead = ""
    for number, line in enumerate(lines, start=1):
        row = row_of(line)
        if row is None or not may_follow(row[0], ahead):
            raise BadText(number)
        rows.append(row)
        ahead = row[0]
    if rest != "" or len(rows) == 0:
        raise BadText(len(lines) + 1)
    return rows


def row_of(line):
    """The row of a line without its line feed, or None if it has no form."""
    first, *words = line.split(" ")
    form = FORMS.get(first, "")
    if form == "" or len(words) != len(form):
        return None
    found = [part_of(word, kind) for word, kind in zip(words, form)]
    if any([part is None for part in found]):
        return None
    return (first, *found)


def part_of(word, kind):
    """The part of a row that stands in a line as a word, or None."""
    if kind == "n":
        return exact_of(word)
    return word if is_word(word) else None


def may_follow(word, ahead):
    """Whether a line may stand behind another one; "" is ahead of the first.

    Nothing but facts may follow a fact, so the line right ahead is enough.
    """
    if word == "frame":
        return ahead == ""
    if word == "level":
        return ahead in ("frame", "level", "rate")
    if word == "rate":
        return ahead in ("level", "rate")
    return ahead != ""
