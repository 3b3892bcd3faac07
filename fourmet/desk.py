"""Desks: books that are edited, with lists that are marked as lost."""

from fourmet.arguments import require_few
from fourmet.books import Book
from fourmet.names import GROWN_NAMES, check_number
from fourmet.unmet import least_met


class Desk:
    """A desk, which holds a book that its methods edit.

    The book is held as its names and its lists. Each edit remembers what was held before it.
    """

    def __init__(self, book):
        require_few(book.names, GROWN_NAMES)
        self._names = book.names
        self._lists = book.lists
        self._lost = ()
        self._past = []

    @property
    def book(self):
        """The whole book as it is now."""
        return Book(self._names, self._lists)

    @property
    def left(self):
        """The book without the lists that are marked as lost."""
        return Book(self._names, [row for at, row in enumerate(self._lists) if at not in self._lost])

    @property
    def lost(self):
        """The tuple of the indexes of the lists that are marked as lost, ascending."""
        return self._lost

    @property
    def strength(self):
        """The strength of the left book, or None."""
        found = self.weakest
        if found is None:
            return None
        return found[0]

    @property
    def tells(self):
        """Whether the left book tells all trees."""
        number = self.strength
        return number is None or number >= 1

    @property
    def weakest(self):
        """The strength of the left book and the first parting that has it; None if there is no parting."""
        return least_met(self.left)

    @property
    def edits(self):
        """The number of edits that are remembered."""
        return len(self._past)

    def __len__(self):
        return len(self._lists)

    def __iter__(self):
        return iter(self._lists)

    def __contains__(self, value):
        return value in self._lists

    def _edit(self, book, lost):
        """Hold this book and these marks, and remember what was held before."""
        self._past.append((self._names, self._lists, self._lost))
        self._names = book.names
        self._lists = book.lists
        self._lost = lost

    def add_name(self, name):
        """Add a name, which stands in no list."""
        more = self.book.with_name(name)
        require_few(more.names, GROWN_NAMES)
        self._edit(more, self._lost)

    def drop_name(self, name):
        """Take the name out of the names and out of all lists."""
        self._edit(self.book.without_name(name), self._lost)

    def add_list(self, names):
        """Add a list at the end, and return its index."""
        more = self.book.with_list(names)
        self._edit(more, self._lost)
        return len(more) - 1

    def drop_list(self, index):
        """Take the list at the index out, with its mark, and return it."""
        fewer = self.book.without_lists((index,))
        row = self._lists[index]
        kept = [at for at in self._lost if at != index]
        # Later lists move up, and their marks with them.
        self._edit(fewer, tuple([at - 1 if at > index else at for at in kept]))
        return row

    def lose(self, index):
        """Mark the list as lost, and tell whether it was not marked."""
        check_number(index, 0, len(self._lists) - 1)
        if index in self._lost:
            return False
        self._edit(self.book, tuple(sorted(self._lost + (index,))))
        return True

    def restore(self, index):
        """Take the mark of the list away, and tell whether it was marked."""
        check_number(index, 0, len(self._lists) - 1)
        if index not in self._lost:
            return False
        self._edit(self.book, tuple([at for at in self._lost if at != index]))
        return True

    def undo(self):
        """Undo the last edit that is remembered, and tell whether there was one."""
        if not self._past:
            return False
        self._names, self._lists, self._lost = self._past.pop()
        return True
