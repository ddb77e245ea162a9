"""Books to which facts are added one by one, and from which they are taken back."""

from surelevels.papers import is_fit


class Gauges:
    """A book that grows fact by fact."""

    def __init__(self, book):
        # What is kept and what is told are copies: changes of the one have no effect on the other.
        self.pages = [copy_of(book)]

    def add(self, fact):
        """Puts a fact behind the others; tells whether a history fits then."""
        self.pages.append(self.pages[-1].further([fact]))
        return is_fit(self.pages[-1])

    def undo(self):
        """Takes back the fact that was added last; tells whether there was one."""
        if len(self.pages) == 1:
            return False
        self.pages.pop()
        return True

    def book(self):
        """The book as it is."""
        return copy_of(self.pages[-1])


def copy_of(book):
    """A book that is equal to another one."""
    return book.further([])
