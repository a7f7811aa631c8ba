"""Books as objects, which never change."""

from onehold.books import Choices, asks_sender, check_book, is_sweep, read_book, show_book
from onehold.compared import difference
from onehold.errors import BadLook, NoRow
from onehold.verdicts import verdict


class Book:
    """A book that never changes: what would change it returns another one."""

    def __init__(self, states, *rows):
        check_book((states, rows))
        self.states = states
        self.rows = rows
        self.data = (states, rows)

    @staticmethod
    def read(text):
        """Return the Book of the text."""
        states, rows = read_book(text)
        return Book(states, *rows)

    def with_look(self, name, look):
        """Return the Book with the look behind the looks of a row."""
        row = self[name]
        if look in row[2] or not can_have(self.states, row, look):
            raise BadLook(name, look)
        return with_looks(self, name, (*row[2], look))

    def without_look(self, name, look):
        """Return the Book without one look of a row."""
        row = self[name]
        if look not in row[2]:
            raise BadLook(name, look)
        return with_looks(self, name, tuple([other for other in row[2] if other != look]))

    def differs(self, other):
        """Return the Verdict about events that make a difference between houses of the two books."""
        return difference(self.data, other.data)

    def __call__(self, wrong, world="late"):
        """Return the Verdict about the wrong in all runs of the world."""
        return verdict(self.data, wrong, world=world)

    def __len__(self):
        return len(self.rows)

    def __getitem__(self, at):
        for row in self.rows:
            if row[0] == at:
                return row
        raise NoRow(at)

    def __iter__(self):
        raise TypeError("a Book is not iterated over")

    def __contains__(self, x):
        return any([row[0] == x for row in self.rows])

    def __str__(self):
        return str(show_book(self.data))

    def __eq__(self, other):
        return isinstance(other, Book) and self.data == other.data

    def __ne__(self, other):
        return not (isinstance(other, Book) and self.data == other.data)

    def __add__(self, other):
        rows = [*self.rows, other]
        return Book(self.states, *rows)

    def __sub__(self, other):
        if other not in self:
            raise NoRow(other)
        rows = [row for row in self.rows if row[0] != other]
        return Book(self.states, *rows)


def with_looks(book, name, looks):
    """Return the Book with these looks in the place of those of a row."""
    rows = [(row[0], row[1], looks, row[3], row[4]) if row[0] == name else row for row in book.rows]
    return Book(book.states, *rows)


def can_have(states, row, look):
    """Tell whether the row may have the look."""
    return look in Choices(states).looks and not (is_sweep(row) and asks_sender((look,)))
