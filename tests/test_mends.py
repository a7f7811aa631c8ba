"""Points [28] and [29]: gentle looks, least looks, fewest rows, needless looks."""

import unittest

from onehold.books import looks_for
from onehold.errors import BadMost, BadWrong, HasWrong, InvalidRow, InvalidStates
from onehold.mends import fewest_rows, gentle_looks, least_looks, needless_looks
from onehold.verdicts import verdict
from tests.samples import HOLD, PAY, book_of
from tests.test_pages import FOUR, THREE
from tests.test_verdicts import BAD_BOOK, NO_STATES

BOOK = book_of(HOLD, PAY)
AGAIN = "again: others held ? at held, other, over ! take held\n"
SAFE = book_of(HOLD, AGAIN, "pay: my held ? mine, at held ! take sold, keep\n")
PLAIN = "states: held, sold\n"
ALL = ("twice", "astray", "unpaid", "taken", "nobody")


def with_looks(book, looks):
    """The book with these looks put in behind those of their rows."""
    states, rows = book
    return (states, tuple((row[0], row[1], row[2] + tuple(look for name, look in looks if name == row[0]), *row[3:])
                          for row in rows))


class Gentle(unittest.TestCase):
    """Point [28]."""

    def looks_of(self, book, name):
        return [look for row, look in gentle_looks(book) if row == name]

    def test_the_looks_that_hold_for_all_who_see_the_present_state(self):
        self.assertEqual(self.looks_of(BOOK, "hold"), ["not held", "not sold", "same", "still", "unpaid"])
        self.assertEqual(self.looks_of(BOOK, "pay"), ["at held", "not free", "not sold", "same", "still", "unpaid"])
        self.assertEqual(gentle_looks(BOOK), [("hold", look) for look in self.looks_of(BOOK, "hold")]
                         + [("pay", look) for look in self.looks_of(BOOK, "pay")])
        self.assertEqual(gentle_looks(book_of(HOLD)),
                         [("hold", look) for look in ["not held", "not sold", "same", "still", "unpaid"]])

    def test_looks_at_the_sender(self):
        """"free" is seen by owners and strangers, and nobody is who then; "my held" is seen by the owner alone."""
        book = book_of(HOLD, "pay: my held ? ! take sold, keep\n", AGAIN)
        self.assertIn("mine", self.looks_of(book, "pay"))
        self.assertNotIn("other", self.looks_of(book, "pay"))
        self.assertNotIn("mine", self.looks_of(book, "hold"))
        self.assertNotIn("other", self.looks_of(book, "hold"))
        both = book_of(HOLD, "pay: my held, others held ? at held ! take held\n")
        self.assertNotIn("mine", self.looks_of(both, "pay"))
        self.assertNotIn("other", self.looks_of(both, "pay"))

    def test_looks_at_time_and_money(self):
        book = book_of(HOLD, "longer: my held ? running ! time\n", "pay: my held ? paid ! time\n")
        self.assertNotIn("running", self.looks_of(book_of(HOLD, "longer: my held ? ! time\n"), "longer"))
        self.assertNotIn("over", self.looks_of(book, "longer"))
        self.assertIn("unpaid", self.looks_of(book, "longer"))
        paid = book_of("hold: free ? at free ! take held, keep\n", "longer: my held ? ! time\n")
        self.assertIn("paid", self.looks_of(paid, "longer"))
        self.assertNotIn("unpaid", self.looks_of(paid, "longer"))

    def test_rows_that_nobody_can_send_in_sight_of_the_present_state(self):
        book = book_of(HOLD, "pay: my sold ? mine ! keep\n", "away: others sold ? same ! free\n")
        for name, looks in (("pay", ("mine",)), ("away", ("same",))):
            self.assertEqual(self.looks_of(book, name), [look for look in looks_for(book) if look not in looks])
        # Nobody who sees "my held" is refused either way: the row is not done then, whatever look stands there.
        book = book_of(HOLD, "pay: my held ? at sold ! keep\n")
        self.assertEqual(self.looks_of(book, "pay"), [look for look in looks_for(book) if look != "at sold"])

    def test_all_situations_of_the_table_count(self):
        """A seat that is sold by the way of an old answer alone is one of them."""
        book = book_of(HOLD, "pay: my sold ? ! take sold\n", "note: my sold, my held ? mine ! refund\n")
        self.assertNotIn("at held", self.looks_of(book, "note"))
        self.assertNotIn("not sold", self.looks_of(book, "note"))
        self.assertIn("not free", self.looks_of(book, "note"))

    def test_sweeps_are_not_counted(self):
        book = book_of(HOLD, "lapse: ? ! free\n")
        self.assertEqual({name for name, _ in gentle_looks(book)}, {"hold"})
        self.assertEqual(gentle_looks(book_of("lapse: ? ! free\n")), [])
        self.assertEqual(gentle_looks(book_of()), [])

    def test_still_is_gentle_wherever_it_is_missing(self):
        book = book_of(HOLD, "pay: my held ? still ! keep\n", AGAIN)
        self.assertEqual([name for name, look in gentle_looks(book) if look == "still"], ["hold", "again"])

    def test_lists_are_new(self):
        gentle_looks(BOOK).clear()
        self.assertEqual(len(gentle_looks(BOOK)), 11)


class Least(unittest.TestCase):
    """Point [29], least_looks."""

    def check(self, book, wrongs, looks, **more):
        self.assertEqual(least_looks(book, wrongs, **more), looks)
        if looks is not None:
            self.assertIsInstance(looks, tuple)
            for wrong in wrongs:
                self.assertTrue(verdict(with_looks(book, looks), wrong).safe)

    def test_one_look(self):
        for wrongs in (("twice",), ("taken", "twice"), ("twice", "astray", "taken", "unpaid")):
            self.check(BOOK, wrongs, (("pay", "at held"),))
            self.check(BOOK, wrongs, (("pay", "at held"),), most=1)
            self.check(BOOK, wrongs, None, most=0)

    def test_no_look(self):
        for most in (0, 1, 2):
            self.check(SAFE, ALL, (), most=most)
            self.check(BOOK, ("astray",), (), most=most)

    def test_the_first_one_of_several(self):
        """"at held" is the first look that does it; in the row of it, "not free" does it no more."""
        book = book_of(HOLD, "pay: my held ? mine, at held ! take sold, keep\n",
                       "again: my sold ? mine ! keep\n", "more: my sold ? mine ! keep\n")
        self.assertIsNone(least_looks(book, ("twice",)))
        book = book_of("hold: free ? ! take held\n")
        self.check(book, ("taken",), (("hold", "at free"),))
        book = book_of("hold: free ? not sold ! take held\n")
        self.check(book, ("taken",), (("hold", "at free"),))

    def test_two_looks(self):
        book = book_of("hold: free ? ! take held\n", "buy: free ? ! take sold, keep\n")
        self.check(book, ("taken",), (("hold", "at free"), ("buy", "at free")))
        self.check(book, ("taken",), (("hold", "at free"), ("buy", "at free")), most=2)
        self.check(book, ("taken",), None, most=1)
        self.check(book, ("taken",), None, most=0)

    def test_more_than_two(self):
        book = book_of("a: free ? ! take held\n", "b: free ? ! take held\n", "c: free ? ! take held\n")
        self.check(book, ("taken",), None)
        self.assertEqual(fewest_rows(book, ("taken",)), ("a", "b", "c"))

    def test_wrongs_of_the_world_fresh(self):
        book = book_of(HOLD, "lapse: ? at held ! move sold\n")
        self.check(book, ("unpaid",), None)
        self.check(book, ("twice", "unpaid"), None)
        self.check(book, ("twice",), ())
        self.check(book_of(HOLD), ("nobody",), None)

    def test_nobody(self):
        """A stranger's page that lags makes the hold longer for ever."""
        book = book_of(HOLD, "again: others held ? over ! take held\n", "longer: my held ? at held ! time\n")
        self.check(book, ("nobody",), (("longer", "mine"),))
        self.check(book, ("nobody", "taken"), (("longer", "mine"),))
        self.check(book, ("nobody",), None, most=0)

    def test_books_with_pages_that_show_what_was(self):
        for book in (THREE, FOUR):
            looks = least_looks(book, ("twice",), most=1)
            self.check(book, ("twice",), looks)

    def test_errors(self):
        for most in (-1, 3, 100):
            self.check_error(BadMost, {"most": most}, least_looks, BOOK, ("twice",), most=most)
            self.check_error(BadWrong, {"index": 0}, least_looks, BOOK, (), most=most)
            self.check_error(InvalidStates, {"index": 0}, least_looks, NO_STATES, (), most=most)
        for function in (least_looks, fewest_rows, needless_looks):
            for book, kind, fields in ((NO_STATES, InvalidStates, {"index": 0}),
                                       (BAD_BOOK, InvalidRow, {"index": 0, "part": "marks"})):
                self.check_error(kind, fields, function, book, ())
                self.check_error(kind, fields, function, book, ("never",))
            for wrongs, index in (((), 0), (("never",), 0), (("twice", "never"), 1), (("twice", "twice"), 1),
                                  (("twice", "nobody", "astray", "nobody", "never"), 3), (("x", "twice", "x"), 0),
                                  (("taken", "", "taken"), 1)):
                self.check_error(BadWrong, {"index": index}, function, BOOK, wrongs)
        self.check_error(InvalidStates, {"index": 0}, gentle_looks, NO_STATES)
        self.check_error(InvalidRow, {"index": 0, "part": "marks"}, gentle_looks, BAD_BOOK)

    def check_error(self, kind, fields, function, *args, **more):
        with self.assertRaises(kind) as caught:
            function(*args, **more)
        self.assertIs(caught.exception.__class__, kind)
        self.assertEqual(vars(caught.exception), fields)


class Fewest(unittest.TestCase):
    """Point [29], fewest_rows."""

    def test_rows(self):
        self.assertEqual(fewest_rows(BOOK, ("twice", "taken")), ("pay",))
        self.assertEqual(fewest_rows(BOOK, ("astray",)), ())
        self.assertEqual(fewest_rows(SAFE, ALL), ())
        book = book_of("hold: free ? ! take held\n", "buy: free ? ! take sold, keep\n", "tip: my sold ? ! keep\n")
        self.assertEqual(fewest_rows(book, ("taken",)), ("hold", "buy"))
        self.assertIsNone(fewest_rows(book, ("taken", "twice")))

    def test_the_first_rows_of_several(self):
        """Either row alone is enough: one of them makes the seat sold, the other one pays again."""
        book = book_of(HOLD, "first: my held ? mine ! move sold, keep\n", "next: my held ? at sold ! keep\n")
        self.assertEqual(fewest_rows(book, ("twice",)), ("first", "next"))
        book = book_of(HOLD, "first: my sold ? unpaid ! take sold\n", "next: my sold ? unpaid ! take held\n")
        self.assertEqual(fewest_rows(book, ("unpaid",)), ("first",))
        book = book_of(HOLD, "up: others held ? mine ! move sold\n", "pay: my sold ? unpaid, at sold ! keep\n")
        self.assertEqual(fewest_rows(book, ("unpaid",)), ("up",))

    def test_rows_that_cannot_have_it(self):
        book = book_of(HOLD, "lapse: ? over ! free\n", "pay: my held ? still ! take sold, keep\n")
        self.assertEqual(fewest_rows(book, ("twice", "astray", "unpaid", "taken")), ())
        self.assertIsNone(fewest_rows(book_of(HOLD, "lapse: ? ! move sold\n"), ("unpaid",)))
        self.assertIsNone(fewest_rows(book_of(HOLD), ("twice", "nobody")))

    def test_nobody(self):
        book = book_of(HOLD, "again: others held ? over ! take held\n", "longer: my held ? at held ! time\n")
        self.assertEqual(fewest_rows(book, ("nobody",)), ("longer",))


class Needless(unittest.TestCase):
    """Point [29], needless_looks."""

    def test_from_the_last_one_on(self):
        self.assertEqual(needless_looks(SAFE, ALL), [("again", "other"), ("again", "at held")])
        self.assertEqual(needless_looks(SAFE, ("unpaid",)),
                         [("pay", "at held"), ("pay", "mine"), ("again", "over"), ("again", "other"),
                          ("again", "at held"), ("hold", "at free")])
        self.assertEqual(needless_looks(book_of(HOLD), ("twice",)), [("hold", "at free")])
        self.assertEqual(needless_looks(book_of(HOLD), ("taken",)), [])
        self.assertEqual(needless_looks(book_of(), ALL), [])

    def test_one_of_two_looks_that_do_the_same(self):
        book = book_of("hold: free ? at free, not held, not sold ! take held\n", "pay: my held ? still ! take sold, keep\n")
        self.assertEqual(needless_looks(book, ("taken",)), [("hold", "not sold"), ("hold", "not held")])
        book = book_of("hold: free ? at free, not held ! take held\n")
        self.assertEqual(needless_looks(book, ("taken",)), [("hold", "not held")])
        book = book_of("hold: free ? not held, at free ! take held\n")
        self.assertEqual(needless_looks(book, ("taken",)), [("hold", "at free")])

    def test_looks_of_sweeps(self):
        book = book_of(HOLD, "lapse: ? at held, over ! free\n")
        self.assertEqual(needless_looks(book, ("taken", "nobody")), [("lapse", "at held")])
        self.assertEqual(needless_looks(book, ("nobody",)),
                         [("lapse", "over"), ("lapse", "at held"), ("hold", "at free")])

    def test_a_wrong_that_the_book_has(self):
        for wrongs, wrong in ((("twice",), "twice"), (("taken", "twice"), "twice"), (("nobody", "twice"), "nobody"),
                              (("twice", "nobody"), "twice"), (("astray", "nobody", "twice"), "nobody")):
            with self.assertRaises(HasWrong) as caught:
                needless_looks(BOOK, wrongs)
            self.assertEqual(vars(caught.exception), {"wrong": wrong})
        with self.assertRaises(BadWrong):
            needless_looks(BOOK, ("twice", "never"))

    def test_books_and_wrongs_are_left_as_they_are(self):
        looks = needless_looks(SAFE, ALL)
        looks.clear()
        self.assertEqual(needless_looks(SAFE, ALL), [("again", "other"), ("again", "at held")])
        self.assertEqual(SAFE, book_of(HOLD, AGAIN, "pay: my held ? mine, at held ! take sold, keep\n"))


if __name__ == "__main__":
    unittest.main()
