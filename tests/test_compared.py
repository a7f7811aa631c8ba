"""Points [30] to [32]: serial books, differences, idle looks and buttons."""

import unittest

from onehold.compared import buttons, difference, idle_looks, never_more, serial, stand_in
from onehold.errors import HoldError, InvalidRow, InvalidSituation, InvalidStates, NotDone, UnlikeStates
from onehold.houses import House, play
from onehold.pages import fewest_pages
from onehold.situations import after, effect, steps_at
from tests.samples import HOLD, PAY, book_of
from tests.test_verdicts import BAD_BOOK, NO_STATES

FIRST = ("free", "", "none", ())
RUNNING = ("held", "running", "none", ())
PAID = ("sold", "", "good", ("held",))
SHUT = ("", "", "shut", ())
CLOCK = ("", "clock", "", "")
BOOK = book_of(HOLD, PAY)
AGAIN = "again: others held ? at held, other, over ! take held\n"
STILL = book_of(HOLD, "pay: my held ? still ! take sold, keep\n")
AT_HELD = book_of(HOLD, AGAIN, "pay: my held ? mine, at held ! take sold, keep\n")
PLAIN = "states: held, sold\n"
TIMED = "states: held timed\n"


def outcome(house, event):
    """What an event does in a house: True, False, None for another answer or "raises"."""
    try:
        told = play(house, [event])[0]
    except HoldError:
        return "raises"
    return told if told is True or told is False else None


def seen(house):
    state, who, _, _, _, kept, _ = house.record(0)
    return (state, who, kept)


def differences(first, second, events):
    """The list of (index, turn) of the events that make a difference, with the steps that are done ahead of it."""
    houses = [House(first), House(second)]
    found = []
    for index, event in enumerate(events):
        turn = houses[0].record(0)[3]
        told = [outcome(house, event) for house in houses]
        if told[0] != told[1] or seen(houses[0]) != seen(houses[1]):
            found.append((index, turn))
    return found


def swapped(text):
    """The text with the words "held" and "sold" in each other's places."""
    return text.replace("held", "x").replace("sold", "held").replace("x", "sold")


class Serial(unittest.TestCase):
    """Point [30]."""

    def check(self, book, *path):
        """The book is not serial, and the path shows it."""
        told = serial(book)
        self.assertEqual((told.safe, told.path, told.members, told.events), (False, list(path), None, None))
        self.assertEqual(told.steps, len([step for step in path if step != CLOCK]))
        situation = FIRST
        for step in path[:-1]:
            self.assertIn(step, list(steps_at(book, situation, world="fresh")))
            situation, _ = after(book, situation, step)
        self.assertIsNone(stand_in(book, situation, path[-1]))

    def check_serial(self, *rows, **more):
        book = book_of(*rows, **more)
        told = serial(book)
        self.assertEqual(vars(told), {"safe": True, "steps": None, "path": None, "members": None, "events": None})
        for wrong in ("twice", "astray", "unpaid", "taken"):
            self.assertIn(fewest_pages(book, wrong), (0, None))

    def test_serial_books(self):
        self.check_serial()
        self.check_serial(HOLD)
        self.check_serial(HOLD, AGAIN, "pay: my held ? mine, at held ! take sold, keep\n")
        self.check_serial(HOLD, "pay: my held ? still ! take sold, keep\n")
        self.check_serial(HOLD, "lapse: ? over ! free\n")

    def test_books_that_are_not(self):
        self.check(BOOK, ("hold", "outsider", "still", "free"), ("pay", "owner", "still", "my held"),
                   ("pay", "owner", "same", "my held"))
        self.check(book_of("pay: my held ? ! keep\n"), ("pay", "outsider", "old", "my held"))
        self.check(book_of(HOLD, "pay: my held ? over ! keep\n"), ("hold", "outsider", "still", "free"), CLOCK,
                   ("pay", "outsider", "old", "my held"))

    def test_a_stand_in_of_another_row(self):
        """The stranger's old page does what the row "also" does in sight of the present state."""
        self.check_serial(HOLD, "pay: my held ? other ! keep\n", "also: others held ? other ! keep\n")
        self.check(book_of(HOLD, "pay: my held ? other ! keep\n", "also: others held ? other ! refund, keep\n"),
                   ("hold", "outsider", "still", "free"), ("also", "outsider", "still", "others held"),
                   ("pay", "outsider", "old", "my held"))

    def test_each_part_of_the_effect_counts(self):
        for deed, other in (("time", "time, new"), ("move held", "refund"), ("free", "free, refund")):
            book = book_of(HOLD, f"one: others held ? other ! {other}\n", f"two: my held ? other ! {deed}\n", states=TIMED)
            self.assertIs(serial(book).safe, deed == "free")
        # Who: a stranger becomes who, or the holder stays.
        book = book_of(HOLD, "one: my held ? mine ! take held\n", "two: others held ? mine ! take held\n")
        self.assertTrue(serial(book).safe)
        book = book_of(HOLD, "one: my held ? mine ! take held\n", "two: my held ? other ! take held\n")
        self.assertFalse(serial(book).safe)

    def test_the_doer_counts(self):
        """The holder's step is no stand-in for the stranger's, though all else is alike."""
        book = book_of(HOLD, "one: my held ? mine ! time\n", "two: my held ? other ! time\n", states=TIMED)
        self.check(book, ("hold", "outsider", "still", "free"), ("two", "outsider", "old", "my held"))
        book = book_of(HOLD, "one: ? at held ! time\n", "two: my held ? other ! time\n", states=TIMED)
        self.assertTrue(serial(book).safe)

    def test_only_situations_of_the_fresh_table_count(self):
        """Nobody comes to the seat that is sold, as long as no page lags."""
        book = book_of(HOLD, "pay: my sold ? at sold ! keep\n")
        self.assertTrue(serial(book).safe)
        self.assertFalse(serial(book_of("buy: free ? at free ! take sold\n", "pay: my sold ? at sold ! keep\n")).safe)

    def test_stand_in(self):
        old = ("pay", "owner", "old", "my held")
        told = stand_in(BOOK, RUNNING, old)
        self.assertEqual(told, ("pay", "owner", "still", "my held"))
        self.assertEqual(effect(BOOK, RUNNING, told), effect(BOOK, RUNNING, old))
        self.assertEqual(stand_in(BOOK, RUNNING, told), told)
        self.assertEqual(stand_in(BOOK, RUNNING, CLOCK), CLOCK)
        self.assertIsNone(stand_in(BOOK, PAID, ("pay", "owner", "same", "my held")))
        book = book_of(HOLD, "lapse: ? over ! free\n", "go: my sold ? over ! free\n")
        self.assertEqual(stand_in(book, ("held", "over", "none", ()), ("go", "outsider", "old", "my sold")),
                         ("lapse", "house", "", ""))

    def test_stand_in_at_situations_that_no_run_reaches(self):
        odd = ("sold", "", "astray", ("free", "sold"))
        self.assertIsNone(stand_in(BOOK, odd, ("pay", "owner", "old", "my held")))

    def test_errors(self):
        step = ("hold", "outsider", "still", "free")
        for book, kind in ((NO_STATES, InvalidStates), (BAD_BOOK, InvalidRow)):
            with self.assertRaises(kind):
                serial(book)
            with self.assertRaises(kind):
                stand_in(book, ("x",), step)
        for situation in (("x", "", "none", ()), ("held", "", "none", ()), ("free", "", "good", ()), ("free",)):
            with self.assertRaises(InvalidSituation):
                stand_in(BOOK, situation, ("x",))
        for situation, bad in ((RUNNING, step), (FIRST, CLOCK), (SHUT, step), (FIRST, ("x", "outsider", "still", "free")),
                               (FIRST, ("hold", "owner", "still", "free")), (FIRST, ("hold", "outsider", "same", "free")),
                               (FIRST, ()), (FIRST, ("hold",))):
            with self.assertRaises(NotDone):
                stand_in(BOOK, situation, bad)


class Differences(unittest.TestCase):
    """Point [31]."""

    def check(self, first, second, steps):
        """There is a difference behind so many steps, in both orders of the books; None if there is none."""
        for one, other in ((first, second), (second, first)):
            told = difference(one, other)
            self.assertEqual((told.path, told.members), (None, None))
            self.assertIs(told.safe, steps is None)
            self.assertEqual(told.steps, steps)
            if steps is None:
                self.assertIsNone(told.events)
                self.assertTrue(never_more(one, other))
            else:
                self.assertIsInstance(told.events, list)
                self.assertEqual(differences(one, other, told.events), [(len(told.events) - 1, steps)])

    def test_alike(self):
        for book in (BOOK, STILL, AT_HELD, book_of()):
            self.check(book, book, None)
            states, rows = book
            self.check(book, (states[::-1], rows[::-1]), None)
        self.check(BOOK, book_of(HOLD.replace("at free", "not held, not sold"), PAY), None)
        self.check(BOOK, book_of(HOLD, "pay: my held ? mine, not free ! take sold, keep\n"), None)

    def test_names_and_views(self):
        self.check(BOOK, book_of(HOLD), 0)
        self.check(BOOK, book_of(HOLD, "buy: my held ? mine ! take sold, keep\n"), 0)
        self.check(BOOK, book_of(HOLD, "pay: my held, free ? mine ! take sold, keep\n"), 0)
        self.check(BOOK, book_of(HOLD, "pay: my sold ? mine ! take sold, keep\n"), 0)
        self.check(BOOK, book_of(HOLD, "pay: ? at held ! move sold\n"), 0)
        self.check(BOOK, book_of(HOLD, PAY, "lapse: ? over ! free\n"), 0)
        self.check(book_of(HOLD, "pay: my held, my sold ? ! keep\n"), book_of(HOLD, "pay: my sold, my held ? ! keep\n"), None)

    def test_rows_that_are_never_done_count_by_their_names(self):
        self.check(book_of("a: my sold ? at free, at held ! keep\n"), book_of(), 0)
        self.check(book_of("a: my sold ? at free, at held ! keep\n"), book_of("a: my sold ? at free, at sold ! free\n"), None)

    def test_steps_ahead_of_it(self):
        self.check(BOOK, STILL, 1)
        self.check(BOOK, book_of(HOLD, "pay: my held ? mine, at held ! take sold, keep\n"), 2)
        self.check(BOOK, book_of(HOLD, "pay: my held ? mine, running ! take sold, keep\n"), 1)
        self.check(BOOK, book_of(HOLD, "pay: my held ? mine ! move sold, keep\n"), None)
        self.check(BOOK, book_of(HOLD, "pay: my held ? mine ! take sold\n"), 1)
        self.check(BOOK, book_of("hold: free ? ! take held\n", PAY), 1)
        self.check(BOOK, book_of("hold: free ? at free ! take sold\n", PAY), 0)

    def test_who_and_kept(self):
        self.check(book_of(HOLD, "a: my held ? at held ! take held\n"), book_of(HOLD, "a: my held ? at held ! move held\n"), 1)
        self.check(book_of(HOLD, "a: my held ? mine ! take held\n"), book_of(HOLD, "a: my held ? mine ! move held\n"), None)
        # The one who has paid pays anew; only another payer makes a difference.
        self.check(book_of(HOLD, "a: my held ? mine ! move sold, keep\n", "b: my sold ? mine, at sold ! refund, keep\n"),
                   book_of(HOLD, "a: my held ? mine ! move sold, keep\n", "b: my sold ? mine, at sold ! move sold\n"), None)
        self.check(book_of(HOLD, "a: my held ? mine ! move sold, keep\n", "b: my sold ? at sold ! refund, keep\n"),
                   book_of(HOLD, "a: my held ? mine ! move sold, keep\n", "b: my sold ? at sold ! move sold\n"), 2)

    def test_a_payer_who_is_no_owner(self):
        """A stranger pays, and pays anew: nothing to be seen. Another stranger pays: that makes the difference."""
        paid = "a: others held ? other, unpaid ! keep\n"
        first = book_of(HOLD, paid, "b: others held ? other, paid ! refund, keep\n", states=PLAIN)
        second = book_of(HOLD, paid, "b: others held ? other, paid ! move held\n", states=PLAIN)
        self.check(first, second, 2)
        told = difference(first, second)
        self.assertEqual(len({event[1] for event in told.events if event[0] == "open"}), 3)
        # The owner pays instead of the stranger.
        first = book_of(HOLD, paid, "b: my held ? mine, paid ! refund, keep\n", states=PLAIN)
        second = book_of(HOLD, paid, "b: my held ? mine, paid ! move held\n", states=PLAIN)
        self.check(first, second, 2)

    def test_sweeps(self):
        self.check(book_of(HOLD, "lapse: ? over ! free\n"), book_of(HOLD, "lapse: ? at held ! free\n"), 1)
        # It changes nothing to be seen, but makes the turns unlike.
        self.check(book_of(HOLD, "lapse: ? at free ! refund\n"), book_of(HOLD, "lapse: ? at sold ! refund\n"), 0)
        self.check(book_of(HOLD, "lapse: ? over ! refund\n"), book_of(HOLD, "lapse: ? running ! refund\n"), 1)
        self.check(book_of(HOLD, "lapse: ? at held ! refund\n"), book_of(HOLD, "lapse: ? not free ! refund\n"), None)

    def test_numbers_that_are_unlike(self):
        """"new" in one book alone shows where another row asks for "same"."""
        rows = (HOLD, "a: my held ? mine ! time\n", "b: my held ? same ! move sold\n")
        self.check(book_of(*rows), book_of(HOLD, "a: my held ? mine ! time, new\n", "b: my held ? still ! move sold\n"), 2)
        for row, steps in (("b: my held ? same ! move sold\n", 2), ("b: my held ? still ! move sold\n", None),
                           ("b: my held ? same ! new\n", 2), ("b: others held ? same ! move sold\n", 2)):
            self.check(book_of(HOLD, "a: my held ? mine ! time\n", row),
                       book_of(HOLD, "a: my held ? mine ! time, new\n", row), steps)
        # The number of the second house rises later: views of the time between are the same there no more.
        self.check(book_of(HOLD, "a: ? at held ! move sold, new\n", "b: ? at sold ! move held\n", "c: my sold ? same, at held ! free\n"),
                   book_of(HOLD, "a: ? at held ! move sold\n", "b: ? at sold ! move held, new\n", "c: my sold ? same, at held ! free\n"), 3)

    def test_numbers_that_rise_more_than_once(self):
        """b is done ahead of a, and behind c: then its view is of the present number in the first house alone."""
        rows = "u: my held ? mine, at held ! move sold\nb: my held ? same, at sold, unpaid ! free\n"
        text = HOLD + rows + "a: my sold ? mine, at sold, unpaid ! keep{}\nc: my sold ? mine, at sold, paid ! refund{}\n"
        for each in (text, swapped(text)):
            books = {(one, other): book_of(each.format(one, other), states=PLAIN)
                     for one in ("", ", new") for other in ("", ", new")}
            self.check(books["", ""], books[", new", ", new"], 4)
            self.check(books["", ""], books[", new", ""], 4)
            self.check(books["", ""], books["", ", new"], 4)
            self.check(books[", new", ", new"], books[", new", ""], None)
            # Each number has risen once: what was seen ahead of both is of neither.
            self.check(books[", new", ""], books["", ", new"], None)

    def test_views_between_two_rises(self):
        """What was seen between a and c is of one number; what was seen ahead of both is of neither, till c comes again."""
        rows = "u: my held ? mine, at held ! move sold\nb: my {} ? same, at held, paid ! free\n"
        text = HOLD + rows + "a: my sold ? mine, at sold, unpaid ! keep{}\nc: my sold ? mine, at sold, paid ! move held{}\n"
        for each in (text, swapped(text)):
            words = ("held", "sold") if each == text else ("sold", "held")
            for word, steps in zip(words, (6, 4)):
                self.check(book_of(each.format(word, "", ", new"), states=PLAIN),
                           book_of(each.format(word, ", new", ""), states=PLAIN), steps)

    def test_views_of_earlier_turns_ahead_of_a_rise(self):
        text = HOLD + "u: my held ? mine, at held ! move sold\nb: my held ? same, at sold, paid ! free\n"
        text += "a: my sold ? mine, at sold, unpaid ! keep{}\n"
        for each in (text, swapped(text)):
            self.check(book_of(each.format(""), states=PLAIN), book_of(each.format(", new"), states=PLAIN), 3)

    def test_times_that_are_unlike(self):
        longer = "a: my held ? at held ! time\n"
        mark = "a: my held ? at held ! refund\n"
        for row, steps in (("b: ? over ! free\n", 2), ("b: my held ? running ! free\n", 2), ("b: my held ? still ! free\n", None)):
            self.check(book_of(HOLD, longer, row), book_of(HOLD, mark, row), steps)
        self.check(book_of(HOLD, longer, "b: ? over ! free\n"),
                   book_of(HOLD, longer.replace("time", "move held"), "b: ? over ! free\n"), None)
        # One house alone sets it at a, which needs b ahead of it again; b sets it in both: then the times end together.
        rows = ("b: others held ? other, at held ! take held, refund\n", "c: ? over, unpaid ! free\n")
        self.check(book_of(HOLD, "a: my held ? mine, unpaid ! time, keep\n", *rows),
                   book_of(HOLD, "a: my held ? mine, unpaid ! keep\n", *rows), None)
        rows = ("b: others held ? other, at held ! refund\n", "c: ? over, unpaid ! free\n")
        self.check(book_of(HOLD, "a: my held ? mine, unpaid, running ! time, keep\n", *rows),
                   book_of(HOLD, "a: my held ? mine, unpaid, running ! keep\n", *rows), 3)

    def test_shut_seats_are_alike(self):
        first = book_of("buy: free ? ! take sold, keep\n", "b: my sold ? paid ! keep\n", "c: my held ? paid, at free ! free\n")
        second = book_of("buy: free ? ! take sold, keep\n", "b: my sold ? paid ! keep\n", "c: my held ? paid, at free ! time\n")
        self.check(first, second, None)

    def test_never_more(self):
        self.assertIs(never_more(STILL, BOOK), True)
        self.assertIs(never_more(BOOK, STILL), False)
        at_held = book_of(HOLD, "pay: my held ? mine, at held ! take sold, keep\n")
        self.assertIs(never_more(at_held, BOOK), True)
        self.assertIs(never_more(BOOK, at_held), False)
        self.assertIs(never_more(STILL, at_held), True)

    def test_never_more_with_unlike_names(self):
        self.assertIs(never_more(book_of(), BOOK), True)
        self.assertIs(never_more(book_of(HOLD), BOOK), True)
        self.assertIs(never_more(BOOK, book_of(HOLD)), False)
        # What is never done may be missing.
        self.assertIs(never_more(book_of(HOLD, "a: my sold ? at sold ! keep\n"), book_of(HOLD)), True)
        self.assertIs(never_more(book_of(HOLD, "a: my sold ? ! keep\n"), book_of(HOLD)), False)
        self.assertIs(never_more(book_of(HOLD, "a: ? at sold ! refund\n"), book_of(HOLD)), True)
        self.assertIs(never_more(book_of(HOLD, "a: ? at held ! refund\n"), book_of(HOLD)), False)
        self.assertIs(never_more(book_of(HOLD, "a: ? at held ! free\n"), book_of(HOLD, "a: my held ? at held ! free\n")), False)
        self.assertIs(never_more(book_of(HOLD, "a: my held ? at held ! free\n"), book_of(HOLD, "a: ? at held ! free\n")), False)

    def test_never_more_with_unlike_views(self):
        small = book_of(HOLD, "a: my held ? still ! free\n")
        large = book_of(HOLD, "a: my held, others held ? still ! free\n")
        self.assertIs(never_more(small, large), True)
        self.assertIs(never_more(large, small), False)
        # Nobody sees it as it is, so that it is never done in sight of "my sold".
        large = book_of(HOLD, "a: my held, my sold ? still ! free\n")
        self.assertIs(never_more(large, small), True)
        large = book_of(HOLD, "a: my held, my sold ? same ! free\n")
        self.assertIs(never_more(large, book_of(HOLD, "a: my held ? same ! free\n")), True)
        large = book_of(HOLD, "a: my held, my sold ? ! free\n")
        self.assertIs(never_more(large, book_of(HOLD, "a: my held ? ! free\n")), False)

    def test_what_the_first_book_does_otherwise(self):
        one = book_of(HOLD, "a: my held ? mine ! free\n")
        other = book_of(HOLD, "a: my held ? ! move sold\n")
        self.assertIs(never_more(one, other), False)
        self.assertIs(never_more(other, one), False)

    def test_errors(self):
        for function in (difference, never_more):
            for bad, kind in ((NO_STATES, InvalidStates), (BAD_BOOK, InvalidRow)):
                with self.assertRaises(kind):
                    function(bad, BOOK)
                with self.assertRaises(kind):
                    function(BOOK, bad)
            with self.assertRaises(InvalidStates):
                function(NO_STATES, BAD_BOOK)
            with self.assertRaises(InvalidRow):
                function(BAD_BOOK, NO_STATES)
            for states in ("states: held timed\n", "states: held, sold sold\n", "states: held timed, gone sold\n",
                           "states: held timed, sold sold, gone\n", "states: held timed, sold\n"):
                with self.assertRaises(UnlikeStates):
                    function(BOOK, book_of(states=states))
                with self.assertRaises(UnlikeStates):
                    function(book_of(HOLD, states=states), BOOK)

    def test_books_are_left_as_they_are(self):
        told = difference(BOOK, STILL)
        events = list(told.events)
        told.events.clear()
        self.assertEqual(difference(BOOK, STILL).events, events)
        self.assertEqual((BOOK, STILL), (book_of(HOLD, PAY), book_of(HOLD, "pay: my held ? still ! take sold, keep\n")))


class Idle(unittest.TestCase):
    """Point [32], idle_looks."""

    def test_looks_that_can_be_left_out(self):
        self.assertEqual(idle_looks(AT_HELD), [("again", "at held")])
        self.assertEqual(idle_looks(BOOK), [])
        self.assertEqual(idle_looks(book_of()), [])

    def test_each_by_itself(self):
        book = book_of("hold: free ? at free, not held, not sold ! take held\n")
        self.assertEqual(idle_looks(book), [("hold", "at free"), ("hold", "not held"), ("hold", "not sold")])
        book = book_of("hold: free ? at free, not held ! take held\n", states=TIMED)
        self.assertEqual(idle_looks(book), [("hold", "at free"), ("hold", "not held")])

    def test_rows_that_are_never_done(self):
        book = book_of(HOLD, "a: my sold ? at sold, paid ! free\n")
        self.assertEqual(idle_looks(book), [("a", "at sold"), ("a", "paid")])
        book = book_of(HOLD, "a: my sold ? at sold ! free\n")
        self.assertEqual(idle_looks(book), [])

    def test_situations_that_late_letters_reach_count(self):
        """Nobody comes to a seat that is sold, but by an old answer that shows "my sold"."""
        book = book_of(HOLD, "up: my sold ? at held ! move sold\n", "a: my held ? at held ! free\n")
        self.assertEqual(idle_looks(book), [])
        book = book_of(HOLD, "a: my held ? at held ! free\n")
        self.assertEqual(idle_looks(book), [("a", "at held")])

    def test_sweeps(self):
        book = book_of(HOLD, "lapse: ? at held, not sold, over ! free\n")
        self.assertEqual(idle_looks(book), [("lapse", "at held"), ("lapse", "not sold")])

    def test_views(self):
        """"same" lets less in than nothing does, and "still" less than "same", where there is an earlier turn."""
        self.assertEqual(idle_looks(book_of(HOLD, "a: my held ? same, still ! free\n")), [("a", "same"), ("a", "still")])
        self.assertEqual(idle_looks(book_of(HOLD, "a: my held ? still ! free\n")), [])
        book = book_of(HOLD, "a: my held ? same, still ! time\n")
        self.assertEqual(idle_looks(book), [("a", "same")])
        # Behind "free" the number is another one, so that "same" asks for a free seat.
        book = book_of("hold: free ? same, at free ! take held\n")
        self.assertEqual(idle_looks(book), [("hold", "at free")])

    def test_same_beside_still_where_nothing_was_ahead(self):
        book = book_of("hold: free ? same, still ! take held\n")
        self.assertEqual(idle_looks(book), [("hold", "same"), ("hold", "still")])

    def test_books_without_the_look_are_alike(self):
        for book in (BOOK, STILL, AT_HELD, book_of("hold: free ? same, still, at free, unpaid ! take held\n", AGAIN)):
            states, rows = book
            expected = []
            for at, (name, shown, looks, deed, marks) in enumerate(rows):
                for look in looks:
                    left = tuple(other for other in looks if other != look)
                    other = (states, rows[:at] + ((name, shown, left, deed, marks),) + rows[at + 1:])
                    expected += [(name, look)] * difference(book, other).safe
            self.assertEqual(idle_looks(book), expected)


class Buttons(unittest.TestCase):
    """Point [32], buttons."""

    def test_words_of_rows(self):
        self.assertEqual(buttons(AT_HELD), [("hold", "free", True, True, True), ("again", "others held", True, True, False),
                                            ("pay", "my held", True, True, True)])
        self.assertEqual(buttons(book_of(HOLD, "lapse: ? over ! free\n")), [("hold", "free", True, True, True)])
        self.assertEqual(buttons(book_of()), [])

    def test_words_in_the_order_of_shown(self):
        book = book_of("hold: others held, free, my held ? at free ! take held\n")
        self.assertEqual(buttons(book), [("hold", "others held", True, False, False), ("hold", "free", True, True, True),
                                         ("hold", "my held", True, False, False)])

    def test_late_and_fresh(self):
        """A row that needs an earlier view is done in the world "late" alone."""
        book = book_of(HOLD, "pay: my held ? at sold ! keep\n", "up: ? at held ! move sold\n")
        self.assertEqual(buttons(book)[1], ("pay", "my held", True, False, False))
        book = book_of(HOLD, "pay: my held ? same, at sold ! keep\n", "up: ? at held ! move sold\n")
        self.assertEqual(buttons(book)[1], ("pay", "my held", True, False, False))
        book = book_of(HOLD, "pay: others held, my held ? same, at sold, mine ! keep\n", "up: ? at held ! move sold\n")
        self.assertEqual(buttons(book)[1:], [("pay", "others held", False, False, False), ("pay", "my held", True, False, False)])
        book = book_of(HOLD, "pay: my held ? still, at sold ! keep\n", "up: ? at held ! move sold\n")
        self.assertEqual(buttons(book)[1], ("pay", "my held", False, False, False))

    def test_always(self):
        """True if nobody ever sees the word; False if one who sees it is refused, be it for the deed."""
        book = book_of(HOLD, "a: my sold, others sold ? ! free\n", "b: free ? ! free\n", "c: my held ? running ! time\n")
        self.assertEqual(buttons(book)[1:], [("a", "my sold", True, False, True), ("a", "others sold", True, False, True),
                                             ("b", "free", True, False, False), ("c", "my held", True, True, False)])
        # The owner of a number sees "free" again, and strangers do.
        book = book_of(HOLD, "leave: my held ? still ! free\n", "b: free ? other ! keep\n", "c: free ? not held ! keep\n")
        self.assertEqual([told[4] for told in buttons(book)], [True, True, False, True])

    def test_situations_that_late_letters_reach_count_for_always(self):
        book = book_of(HOLD, "pay: my sold ? at held ! move sold\n", "a: my sold ? unpaid ! keep\n")
        self.assertEqual(buttons(book)[1:], [("pay", "my sold", True, False, False), ("a", "my sold", True, False, False)])

    def test_errors_and_lists(self):
        for function in (idle_looks, buttons):
            for bad, kind in ((NO_STATES, InvalidStates), (BAD_BOOK, InvalidRow)):
                with self.assertRaises(kind):
                    function(bad)
            told = function(AT_HELD)
            kept = list(told)
            told.clear()
            self.assertEqual(function(AT_HELD), kept)


if __name__ == "__main__":
    unittest.main()
