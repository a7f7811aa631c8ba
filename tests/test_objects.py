"""Point [33]: books as objects."""

import unittest

from onehold.books import show_book
from onehold.compared import difference
from onehold.errors import BadLook, BadWorld, BadWrong, HoldError, InvalidRow, InvalidStates, InvalidText, NoRow, UnlikeStates
from onehold.objects import Book
from onehold.verdicts import verdict
from tests.samples import HOLD, PAY, book_of
from tests.test_verdicts import BAD_BOOK, NO_STATES

BOOK = book_of(HOLD, PAY)
STATES, ROWS = BOOK
PAY_ROW = ("pay", ("my held",), ("mine",), "take sold", ("keep",))
LAPSE = ("lapse", (), ("over",), "free", ())


def made():
    return Book(STATES, *ROWS)


class Books(unittest.TestCase):

    def fails(self, kind, fields, function):
        with self.assertRaises(kind) as caught:
            function()
        self.assertIs(caught.exception.__class__, kind)
        self.assertEqual(vars(caught.exception), fields)

    def test_parts(self):
        book = made()
        self.assertEqual((book.states, book.rows, book.data), (STATES, ROWS, BOOK))
        empty = Book(STATES)
        self.assertEqual((empty.states, empty.rows, empty.data), (STATES, (), (STATES, ())))
        self.assertEqual(Book(states=STATES).data, (STATES, ()))

    def test_errors_of_the_parts(self):
        self.fails(InvalidStates, {"index": 0}, lambda: Book(()))
        self.fails(InvalidStates, {"index": 1}, lambda: Book((STATES[0], STATES[0]), *BAD_BOOK[1]))
        self.fails(InvalidRow, {"index": 0, "part": "marks"}, lambda: Book(*BAD_BOOK[:1], *BAD_BOOK[1]))
        self.fails(InvalidRow, {"index": 2, "part": "name"}, lambda: Book(STATES, *ROWS, ROWS[0]))
        self.fails(InvalidStates, {"index": 0}, lambda: Book(*NO_STATES[:1]))

    def test_length_and_rows(self):
        book = made()
        self.assertEqual((len(book), len(Book(STATES))), (2, 0))
        self.assertEqual((book["hold"], book["pay"]), ROWS)
        self.assertIs("hold" in book, True)
        self.assertIs("lapse" in book, False)
        self.assertIs("lapse" not in book, True)
        self.assertIs("" in Book(STATES), False)
        self.assertIs(PAY_ROW in book, False)
        for name in ("lapse", "", "Hold", "hol"):
            self.fails(NoRow, {"name": name}, lambda: book[name])

    def test_it_is_not_iterated_over(self):
        for function in (list, iter, tuple, sorted, lambda book: [*book], lambda book: [row for row in book]):
            with self.assertRaises(TypeError):
                function(made())

    def test_text(self):
        text = show_book(BOOK)
        self.assertEqual(str(made()), text)
        self.assertEqual(f"{made()}", text)
        self.assertEqual(Book.read(text), made())
        self.assertIs(Book.read(text).__class__, Book)
        self.assertEqual(made().read(text).data, BOOK)
        for bad, line in (("", 1), (text[:-1], 3), (text.replace("mine", "my"), 3), ("states: free\n", 1)):
            self.fails(InvalidText, {"line": line}, lambda: Book.read(bad))

    def test_equal(self):
        for one, other, equal in ((made(), made(), True), (made(), Book(STATES), False),
                                  (made(), Book(STATES, *ROWS[::-1]), False), (made(), Book(STATES[::-1], *ROWS), False),
                                  (made(), BOOK, False), (made(), str(made()), False), (made(), None, False),
                                  (made(), 2, False), (made(), [made()], False)):
            self.assertIs(one == other, equal)
            self.assertIs(other == one, equal)
            self.assertIs(one != other, not equal)
            self.assertIs(other != one, not equal)

    def test_a_row_more(self):
        book = made()
        more = book + LAPSE
        self.assertEqual(more.data, (STATES, (*ROWS, LAPSE)))
        self.assertEqual(book.data, BOOK)
        self.assertIs(more.__class__, Book)
        self.assertEqual((Book(STATES) + ROWS[0] + ROWS[1]).data, BOOK)
        self.fails(InvalidRow, {"index": 2, "part": "name"}, lambda: book + ROWS[0])
        self.fails(InvalidRow, {"index": 2, "part": "shown"}, lambda: book + ("a", ("held",), (), "free", ()))
        self.fails(InvalidRow, {"index": 0, "part": "looks"}, lambda: Book(STATES) + ("a", (), ("mine",), "free", ()))
        self.fails(InvalidRow, {"index": 2, "part": "deed"}, lambda: book + ("a", (), (), "take held", ()))
        self.fails(InvalidRow, {"index": 2, "part": "marks"}, lambda: book + ("a", (), (), "", ()))

    def test_a_row_less(self):
        book = made()
        self.assertEqual((book - "pay").data, (STATES, ROWS[:1]))
        self.assertEqual((book - "hold").data, (STATES, ROWS[1:]))
        self.assertEqual((book - "hold" - "pay").data, (STATES, ()))
        self.assertEqual(book.data, BOOK)
        self.fails(NoRow, {"name": "lapse"}, lambda: book - "lapse")
        self.fails(NoRow, {"name": "pay"}, lambda: book - "pay" - "pay")

    def test_a_look_more(self):
        book = made()
        for look in ("still", "at held", "not free", "running", "unpaid", "other", "same", "at free"):
            more = book.with_look("pay", look)
            self.assertEqual(more.data, (STATES, (ROWS[0], (*PAY_ROW[:2], ("mine", look), *PAY_ROW[3:]))))
        self.assertEqual(book.data, BOOK)
        self.assertEqual(book.with_look(name="hold", look="paid")["hold"][2], ("at free", "paid"))
        for name, look in (("pay", "mine"), ("hold", "at free"), ("pay", "at gone"), ("pay", ""), ("pay", "held"),
                           ("pay", "at "), ("pay", "Mine")):
            self.fails(BadLook, {"name": name, "look": look}, lambda: book.with_look(name, look))
        for look in ("mine", "x"):
            self.fails(NoRow, {"name": "lapse"}, lambda: book.with_look("lapse", look))

    def test_looks_of_sweeps(self):
        book = made() + LAPSE
        self.assertEqual(book.with_look("lapse", "at held")["lapse"], ("lapse", (), ("over", "at held"), "free", ()))
        for look in ("mine", "other", "same", "still", "over"):
            self.fails(BadLook, {"name": "lapse", "look": look}, lambda: book.with_look("lapse", look))

    def test_a_look_less(self):
        book = made().with_look("pay", "still").with_look("pay", "running")
        self.assertEqual(book.without_look("pay", "still")["pay"][2], ("mine", "running"))
        self.assertEqual(book.without_look("pay", "mine")["pay"][2], ("still", "running"))
        self.assertEqual(book.without_look(name="hold", look="at free").data[1][0], ("hold", ("free",), (), "take held", ()))
        self.assertEqual(book["pay"][2], ("mine", "still", "running"))
        for name, look in (("pay", "over"), ("hold", "at held"), ("pay", "x")):
            self.fails(BadLook, {"name": name, "look": look}, lambda: book.without_look(name, look))
        self.fails(NoRow, {"name": "lapse"}, lambda: book.without_look("lapse", "over"))
        self.assertEqual(made().with_look("pay", "still").without_look("pay", "still"), made())

    def test_verdicts(self):
        book = made()
        for wrong in ("twice", "astray", "unpaid", "taken", "nobody"):
            for world in ("late", "fresh"):
                self.assertEqual(vars(book(wrong, world)), vars(verdict(BOOK, wrong, world=world)))
            self.assertEqual(vars(book(wrong)), vars(verdict(BOOK, wrong)))
        self.assertEqual(vars(book(wrong="twice", world="fresh")), vars(verdict(BOOK, "twice", world="fresh")))
        self.fails(BadWrong, {"index": 0}, lambda: book("never", "soon"))
        self.fails(BadWorld, {"world": "soon"}, lambda: book("twice", "soon"))

    def test_a_book_that_was_asked_ahead(self):
        """What was asked of a book is of no effect on those that are made of it."""
        book = made()
        self.assertEqual((bool(book("twice")), len(book), str(book)), (False, 2, show_book(BOOK)))
        safe = book.with_look("pay", "still")
        self.assertEqual((bool(safe("twice")), bool(book("twice"))), (True, False))
        self.assertEqual(bool(safe.without_look("pay", "still")("twice")), False)
        self.assertEqual(((book - "pay")("twice").safe, book("twice").safe), (True, False))
        self.assertEqual((str(book + LAPSE), str(book)), (show_book((STATES, (*ROWS, LAPSE))), show_book(BOOK)))

    def test_differs(self):
        book = made()
        other = book.with_look("pay", "still")
        self.assertEqual(vars(book.differs(other)), vars(difference(BOOK, other.data)))
        self.assertEqual(book.differs(other).steps, 1)
        self.assertTrue(book.differs(made()))
        self.assertTrue(book.differs(Book(STATES[::-1], *ROWS[::-1])))
        self.fails(UnlikeStates, {}, lambda: book.differs(Book(STATES[:1])))
        self.assertIsInstance(UnlikeStates(), HoldError)

    def test_six_states_and_twelve_rows(self):
        states = tuple((word, False, False) for word in "abcdef")
        rows = tuple(("row" + sign, ("free", "my a"), ("at a", "not b", "same"), "take f", ("new",)) for sign in "abcdefghijkl")
        book = Book(states, *rows)
        self.assertEqual((len(book), book["rowl"], Book.read(str(book)) == book), (12, rows[-1], True))


if __name__ == "__main__":
    unittest.main()
