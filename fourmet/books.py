"""Books: names, and lists of some of them."""

from fourmet.arguments import check_indexes, list_tuple, require_known, require_name
from fourmet.names import name_tuple
from fourmet.sets import is_inside, merged, part_out

LEAST_USEFUL = 4


class Book:
    """A book, which never changes.

    A new book finds out by itself if its names or its lists are too many, or if a name stands there twice.
    """

    def __init__(self, names, lists=()):
        held = name_tuple(names)
        rows = list_tuple(lists)
        for row in rows:
            require_known(row, held)
        self._names = held
        self._lists = rows

    @property
    def names(self):
        """The name tuple of the names."""
        return self._names

    @property
    def lists(self):
        """The tuple of the lists, in their order."""
        return self._lists

    @property
    def useful(self):
        """The tuple of the indexes of the lists that tell something, ascending."""
        return tuple([at for at, row in enumerate(self._lists) if len(row) >= LEAST_USEFUL])

    def __len__(self):
        return len(self._lists)

    def __iter__(self):
        return iter(self._lists)

    def __contains__(self, value):
        return value in self._lists

    def __eq__(self, other):
        return isinstance(other, Book) and self._names == other._names and self._lists == other._lists

    def __add__(self, other):
        return Book(merged(self._names, other.names), self._lists + other.lists)

    @staticmethod
    def of_lists(lists):
        """Return the book of these lists, whose names are all names in them."""
        rows = list_tuple(lists)
        return Book(sorted({name for row in rows for name in row}), rows)

    def with_list(self, names):
        """Return the book with one more list, at the end."""
        row = name_tuple(names)
        # The new book would look for a list too many first.
        require_known(row, self._names)
        return Book(self._names, self._lists + (row,))

    def with_name(self, name):
        """Return the book with one more name, which stands in no list."""
        return Book(self._names + (name,), self._lists)

    def without_name(self, name):
        """Return the book without the name, which is taken out of all lists."""
        require_name(name, self._names)
        rows = [part_out(row, (name,)) for row in self._lists]
        return Book(part_out(self._names, (name,)), rows)

    def without_lists(self, indexes):
        """Return the book without the lists at the indexes."""
        check_indexes(indexes, len(self._lists))
        return Book(self._names, [row for at, row in enumerate(self._lists) if at not in indexes])

    def only_lists(self, indexes):
        """Return the book with the lists at the indexes alone."""
        check_indexes(indexes, len(self._lists))
        return Book(self._names, [row for at, row in enumerate(self._lists) if at in indexes])

    def holding(self, names):
        """Return the indexes of the lists that hold all of the names, ascending."""
        held = name_tuple(names)
        require_known(held, self._names)
        return tuple([at for at, row in enumerate(self._lists) if is_inside(held, row)])

    def distinct(self):
        """Return the book in which, of equal lists, only the first one stays."""
        kept = [row for at, row in enumerate(self._lists) if row not in self._lists[:at]]
        return Book(self._names, kept)
