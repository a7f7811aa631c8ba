"""Points [4] to [8]: books, their looks and their texts."""

import random
import unittest

from onehold.books import check_book, looks_for, read_book, show_book
from onehold.errors import InvalidRow, InvalidStates, InvalidText
from tests.samples import HOLD, STATES, random_book

HELD = ("held", True, False)
SOLD = ("sold", False, True)
KEPT = ("kept", False, False)
ROW = ("hold", ("free",), ("at free",), "take held", ())
SWEEP = ("lapse", (), ("over",), "free", ("refund",))


def row(name="hold", shown=("free",), looks=(), deed="take held", marks=()):
    return (name, shown, looks, deed, marks)


def sweep(name="lapse", looks=(), deed="free", marks=()):
    return (name, (), looks, deed, marks)


class States(unittest.TestCase):

    def check(self, index, *states, rows=()):
        with self.assertRaises(InvalidStates, msg=states) as caught:
            check_book((states, rows))
        self.assertEqual(caught.exception.index, index, states)

    def test_good_states(self):
        for states in [(HELD,), (SOLD,), (KEPT,), (HELD, SOLD, KEPT), (("a", True, False), ("abcdefghijkl", False, True))]:
            self.assertIsNone(check_book((states, ())), states)

    def test_the_letters_from_a_to_z(self):
        self.assertIsNone(check_book(((("a", True, False), ("z", True, False), ("az", True, False)), ())))

    def test_no_state(self):
        self.check(0)
        self.check(0, rows=(ROW,))

    def test_wrong_words(self):
        for word in ["", "free", "Held", "he ld", "held1", "abcdefghijklm", "held\n", "h-", "`", "{", "my held", "\u00e9"]:
            self.check(0, (word, True, False))
            self.check(1, HELD, (word, False, False))

    def test_timed_and_sold(self):
        self.check(0, ("held", True, True))
        self.check(2, HELD, SOLD, ("kept", True, True))

    def test_one_word_twice(self):
        self.check(1, HELD, HELD)
        self.check(2, HELD, SOLD, ("held", False, True))
        self.check(3, HELD, SOLD, KEPT, ("sold", False, False))

    def test_the_first_wrong_state(self):
        self.check(1, HELD, HELD, ("", True, False), ("free", True, False))
        self.check(0, ("free", True, False), ("free", True, False))

    def test_states_ahead_of_rows(self):
        self.check(1, HELD, HELD, rows=(row(name=""),))


class Rows(unittest.TestCase):

    def check(self, index, part, *rows, states=(HELD, SOLD, KEPT)):
        with self.assertRaises(InvalidRow, msg=rows) as caught:
            check_book((states, rows))
        self.assertEqual((caught.exception.index, caught.exception.part), (index, part), rows)

    def passes(self, *rows, states=(HELD, SOLD, KEPT)):
        self.assertIsNone(check_book((states, rows)), rows)

    def test_good_rows(self):
        self.passes()
        self.passes(ROW, SWEEP)
        self.passes(row(name="free"), row(name="held"), row(name="mine"), row(name="abcdefghijkl"))

    def test_names(self):
        for name in ["", "Hold", "h d", "h1", "abcdefghijklm", "hold:", "\n"]:
            self.check(0, "name", row(name=name))
            self.check(1, "name", ROW, row(name=name))
        self.check(1, "name", ROW, ROW)
        self.check(2, "name", ROW, SWEEP, sweep(name="hold"))

    def test_shown(self):
        words = ("free", "my held", "others held", "my sold", "others sold", "my kept", "others kept")
        self.passes(row(shown=words), row(name="back", shown=words[::-1]))
        for word in ["", "held", "my free", "others free", "my  held", "other held", "my other", "Free", "my held "]:
            self.check(0, "shown", row(shown=(word,)))
            self.check(0, "shown", row(shown=("free", word)))
        self.check(0, "shown", row(shown=("free", "my held", "free")))
        self.check(0, "shown", row(shown=("my sold",)), states=(HELD,))

    def test_looks(self):
        looks = tuple(looks_for(((HELD, SOLD, KEPT), ())))
        self.passes(row(looks=looks), row(name="back", looks=looks[::-1]))
        for look in ["", "at", "at ", "held", "at other", "not", "Mine", "at  held", "mine ", "others", "at my held"]:
            self.check(0, "looks", row(looks=(look,)))
            self.check(0, "looks", row(looks=("mine", look)))
        self.check(0, "looks", row(looks=("mine", "over", "mine")))
        self.check(0, "looks", row(looks=("at sold",)), states=(HELD,))

    def test_looks_of_a_sweep(self):
        for look in ["mine", "other", "same", "still"]:
            self.check(0, "looks", sweep(looks=("over", look)))
            self.passes(row(looks=(look,)))
        rest = [look for look in looks_for(((HELD,), ())) if look not in ("mine", "other", "same", "still")]
        self.passes(sweep(looks=tuple(rest)), states=(HELD,))

    def test_deeds(self):
        for deed in ["take held", "take sold", "take kept", "move held", "move sold", "move kept", "free", "time"]:
            self.passes(row(deed=deed))
        for deed in ["take", "take free", "move free", "take other", "move", "none", "free held", "take  held", "time held"]:
            self.check(0, "deed", row(deed=deed))
        self.check(0, "deed", row(deed="take sold"), states=(HELD,))

    def test_deeds_of_a_sweep(self):
        for deed in ["move held", "free", "time"]:
            self.passes(sweep(deed=deed))
        self.passes(sweep(deed="", marks=("refund",)))
        self.check(0, "deed", sweep(deed="take held"))

    def test_marks(self):
        self.passes(row(marks=("new", "refund", "keep")))
        self.passes(row(marks=("keep", "refund", "new")))
        for marks in [("New",), ("",), ("new", "new"), ("keep", "refund", "keep"), ("free",), ("keep ",)]:
            self.check(0, "marks", row(marks=marks))

    def test_marks_beside_the_deed_free(self):
        self.passes(row(deed="free", marks=("refund", "keep")))
        self.check(0, "marks", row(deed="free", marks=("new",)))
        self.check(0, "marks", sweep(deed="free", marks=("refund", "new")))
        for deed in ["", "take held", "move held", "time"]:
            self.passes(row(deed=deed, marks=("new",)))

    def test_marks_of_a_sweep(self):
        self.passes(sweep(deed="move held", marks=("new", "refund")))
        self.check(0, "marks", sweep(marks=("refund", "keep")))

    def test_neither_deed_nor_mark(self):
        self.check(0, "marks", row(deed=""))
        self.check(0, "marks", sweep(deed=""))
        for mark in ["new", "refund", "keep"]:
            self.passes(row(deed="", marks=(mark,)))

    def test_the_first_wrong_part(self):
        bad = {"name": "", "shown": ("",), "looks": ("",), "deed": "no", "marks": ("no",)}
        parts = list(bad)
        for at, part in enumerate(parts):
            self.check(0, part, row(**{name: bad[name] for name in parts[at:]}))

    def test_the_first_wrong_row(self):
        self.check(1, "marks", ROW, row(name="b", marks=("no",)), row(name="c", shown=("no",)), row(name=""))
        self.check(1, "name", ROW, row(), row(name="c", deed="no"))

    def test_a_name_ahead_comes_before_other_parts(self):
        self.check(1, "name", ROW, row(shown=("no",), deed="no"))


class Looks(unittest.TestCase):

    def test_order(self):
        self.assertEqual(looks_for(((SOLD, HELD), ())), [
            "at free", "at sold", "at held", "not free", "not sold", "not held",
            "mine", "other", "same", "still", "running", "over", "unpaid", "paid"])

    def test_one_state(self):
        self.assertEqual(looks_for(((KEPT,), (sweep(),))), [
            "at free", "at kept", "not free", "not kept",
            "mine", "other", "same", "still", "running", "over", "unpaid", "paid"])

    def test_it_refuses_what_check_book_refuses(self):
        with self.assertRaises(InvalidStates):
            looks_for(((), ()))


class Texts(unittest.TestCase):

    def fails(self, line, text):
        with self.assertRaises(InvalidText, msg=text) as caught:
            read_book(text)
        self.assertEqual(caught.exception.line, line, text)

    def test_show(self):
        book = ((HELD, SOLD, KEPT), (
            ROW,
            SWEEP,
            ("both", ("free", "my held"), ("mine", "not kept"), "time", ("new", "refund", "keep")),
            ("mark", ("others sold",), (), "", ("keep", "new")),
            ("bare", (), (), "free", ()),
        ))
        text = ("states: held timed, sold sold, kept\n"
                "hold: free ? at free ! take held\n"
                "lapse: ? over ! free, refund\n"
                "both: free, my held ? mine, not kept ! time, new, refund, keep\n"
                "mark: others sold ? ! keep, new\n"
                "bare: ? ! free\n")
        self.assertEqual(show_book(book), text)
        self.assertEqual(read_book(text), book)

    def test_no_rows(self):
        self.assertEqual(show_book(((KEPT,), ())), "states: kept\n")
        self.assertEqual(read_book("states: kept\n"), ((KEPT,), ()))

    def test_show_refuses_what_check_book_refuses(self):
        with self.assertRaises(InvalidRow):
            show_book(((HELD,), (ROW, ROW)))

    def test_random_books_there_and_back(self):
        rng = random.Random(8)
        for _ in range(300):
            book = random_book(rng)
            self.assertIsNone(check_book(book))
            self.assertEqual(read_book(show_book(book)), book)

    def test_what_is_read_is_what_is_shown(self):
        """A text with one sign taken out, put in or changed is refused, or is shown just so."""
        text = STATES + HOLD + "lapse: ? over ! free, refund\n"
        for at in range(len(text)):
            for sign in ["", " ", "a", ":", "?", "!", ",", "\n", "A"]:
                for rest in (text[at:], text[at + 1:]):
                    changed = text[:at] + sign + rest
                    try:
                        book = read_book(changed)
                    except InvalidText as error:
                        self.assertIn(error.line, (changed[:at].count("\n") + more for more in (1, 2)))
                    else:
                        self.assertIsNone(check_book(book))
                        self.assertEqual(show_book(book), changed)

    def test_the_empty_text(self):
        self.fails(1, "")

    def test_wrong_states_lines(self):
        for line in ["", "states:", "states: ", "state: held", "held", " states: held", "states:  held", "states: held ",
                     "states: held  timed", "states: held timed ", "states: held, held", "states: held,sold",
                     "states: held timed sold", "states: held free", "states: free", "states: Held", "states: held,",
                     "states: held, ", "states: , held", "states: held timed, held sold", "states: abcdefghijklm",
                     "States: held", "states: held\r"]:
            self.fails(1, line + "\n")
            self.fails(1, line + "\n" + HOLD)

    def test_wrong_row_lines(self):
        for line in ["", "hold", "hold:", "hold: free", "hold: free ?", "hold: free ? at free", "hold: free ? at free !",
                     "hold: free ? at free ! ", "hold: free ? ! ", "hold: free ?  ! take held", "hold:  free ? ! take held",
                     "hold : free ? ! take held", " hold: free ? ! take held", "hold: free ? ! take held ",
                     "hold: free, ? ! take held", "hold: free,my held ? ! take held", "hold: free ? ! take held,keep",
                     "hold: free ? ! keep, take held", "hold: free ? ! take held, free", "hold: free ? ! , keep",
                     "hold: free ? ! take held, ", "hold: free ?! take held", "hold: free? ! take held",
                     "hold:free ? ! take held", "hold: free ? ! take free", "hold: free, free ? ! take held",
                     "hold: free ? mine, mine ! take held", "hold: free ? ! keep, keep", "hold: my cold ? ! take held",
                     "hold: free ? at cold ! take held", "hold: free ? ! free, new", "hold: ? ! take held",
                     "hold: ? mine ! free", "hold: ? ! free, keep", ": free ? ! take held", "Hold: free ? ! take held",
                     "hold: free ? ! ! take held", "hold: free ? ? ! take held", "states: held timed"]:
            self.fails(2, STATES + line + "\n")
            self.fails(3, STATES + "other: ? over ! free\n" + line + "\n")
            self.fails(2, STATES + line + "\n" + HOLD)

    def test_a_line_ahead_makes_a_line_wrong(self):
        self.fails(3, STATES + HOLD + HOLD)
        self.fails(4, STATES + HOLD + "lapse: ? over ! free\n" + "hold: ? over ! free\n")
        self.fails(2, "states: held timed\n" + "pay: my held ? ! take sold\n")

    def test_the_first_wrong_line(self):
        self.fails(2, STATES + "no\n" + HOLD + HOLD)
        self.fails(1, "no\nno\n")
        self.fails(3, STATES + HOLD + HOLD + "no")

    def test_blank_lines(self):
        self.fails(1, "\n")
        self.fails(1, "\n" + STATES)
        self.fails(2, STATES + "\n")
        self.fails(2, STATES + "\n" + HOLD)
        self.fails(3, STATES + HOLD + "\n")

    def test_a_newline_that_is_missing(self):
        self.fails(1, "states: held timed")
        self.fails(1, "no")
        self.fails(2, (STATES + HOLD)[:-1])
        self.fails(3, STATES + HOLD + "lapse: ? over ! free")
        self.fails(2, STATES + "no")


if __name__ == "__main__":
    unittest.main()
