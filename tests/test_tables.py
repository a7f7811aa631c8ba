"""Point [20]: tables."""

import unittest

from onehold.errors import BadWorld, InvalidRow, InvalidStates
from onehold.tables import table
from tests.samples import HOLD, OPEN_ROWS, PAY, book_of

FIRST = ("free", "", "none", ())
RUNNING = ("held", "running", "none", ())
OVER = ("held", "over", "none", ())
PAID = ("sold", "", "good", ("held",))
SHUT = ("", "", "shut", ())


class Tables(unittest.TestCase):

    def test_a_late_and_a_fresh_table(self):
        book = book_of(HOLD, PAY)
        fresh = [(FIRST, 0), (OVER, 1), (RUNNING, 1), (PAID, 2)]
        self.assertEqual(table(book, world="late"), [(SHUT, 3)] + fresh)
        self.assertEqual(table(book, world="fresh"), fresh)

    def test_the_world_is_late_if_left_out(self):
        book = book_of(HOLD, PAY)
        self.assertEqual(table(book), table(book, world="late"))
        self.assertEqual(table(book=book), table(book))

    def test_the_world_is_passed_by_name_alone(self):
        with self.assertRaises(TypeError):
            table(book_of(HOLD), "late")

    def test_no_rows(self):
        self.assertEqual(table(book_of()), [(FIRST, 0)])
        self.assertEqual(table(book_of("pay: my held ? ! take sold\n"), world="fresh"), [(FIRST, 0)])

    def test_the_clock_is_not_counted(self):
        book = book_of(HOLD, "late: others held ? over ! take sold\n")
        self.assertEqual(dict(table(book))[("sold", "", "none", ())], 2)
        book = book_of(HOLD, "lapse: ? over ! free\n", "again: free ? ! take held\n")
        self.assertEqual(dict(table(book, world="fresh")), {
            FIRST: 0, RUNNING: 1, OVER: 1, ("free", "", "none", ("held",)): 2})

    def test_the_least_number_of_several_ways(self):
        book = book_of(HOLD, "slow: my held ? ! move sold\n", "quick: free ? ! take sold\n")
        sold = ("sold", "", "none", ("held",))
        self.assertEqual(dict(table(book))[("sold", "", "none", ())], 1)
        self.assertEqual(dict(table(book))[sold], 2)

    def test_a_past_that_a_late_page_needs(self):
        """"same" lets a page act that saw the state at a smaller turn, and no other one."""
        book = book_of(HOLD, "drop: my held ? ! free\n", "stale: my held ? same, at free ! refund\n",
                       "wrong: others sold ? same ! refund\n")
        self.assertEqual([situation for situation, _ in table(book)], [
            FIRST, ("free", "", "none", ("free", "held")), ("free", "", "none", ("held",)), OVER, RUNNING])
        self.assertEqual([situation for situation, _ in table(book, world="fresh")], [
            FIRST, ("free", "", "none", ("held",)), OVER, RUNNING])

    def test_only_a_number_with_an_owner_has_letters_of_the_owner(self):
        """A free seat whose past is free alone has no owner who may have seen it."""
        book = book_of("tip: free ? ! refund\n", "stale: my held ? at free, still ! take held\n")
        self.assertEqual(table(book), [(FIRST, 0), (("free", "", "none", ("free",)), 1)])

    def test_a_letter_that_needs_a_past_of_the_right_way(self):
        """kept is reached at once, but only behind held does a page that saw "others held" do something there."""
        book = book_of(HOLD, "next: my held ? at held ! move kept\n", "quick: free ? at free ! take kept\n",
                       "grab: others held ? same, at kept ! take sold\n", "sell: others held ? same, at kept ! move sold\n",
                       states="states: held timed, kept, sold sold\n")
        found = dict(table(book))
        self.assertEqual([found[("kept", "", "none", past)] for past in ((), ("held",))], [1, 2])
        self.assertEqual([found[("sold", "", "none", past)] for past in ((), ("held", "kept"))], [3, 3])
        self.assertNotIn(("sold", "", "none", ("kept",)), found)

    def test_a_clock_that_is_over_ahead_of_one_that_runs(self):
        """A running time of this past comes only by a refund, one step later than the one that is over."""
        book = book_of(HOLD, "stir: my held ? over ! refund\n", "tip: my held ? over ! keep\n",
                       "renew: my held ? paid ! time, refund\n")
        found = dict(table(book))
        self.assertEqual([found[("held", clock, "none", ("held",))] for clock in ("over", "running")], [2, 3])

    def test_pasts_and_numbers_in_order(self):
        rows = table(book_of(OPEN_ROWS))
        self.assertEqual(rows, sorted(rows))
        self.assertEqual(len({situation for situation, _ in rows}), len(rows))
        self.assertEqual(rows[0], (SHUT, 2))
        self.assertIn((("free", "", "astray", ("free", "held", "sold")), 4), rows)
        self.assertIn((("sold", "", "good", ("held", "sold")), 3), rows)
        self.assertNotIn("good", [situation[2] for situation, _ in rows if situation[0] != "sold"])

    def test_words_on_both_sides_of_free(self):
        book = book_of("a: free ? ! take apart\n", "b: my apart ? ! free\n", "c: free ? ! refund\n", states="states: apart\n")
        self.assertEqual(table(book), [
            (("apart", "", "none", ()), 1), (("apart", "", "none", ("apart",)), 2),
            (("free", "", "none", ()), 0), (("free", "", "none", ("apart",)), 2),
            (("free", "", "none", ("apart", "free")), 3), (("free", "", "none", ("free",)), 1)])

    def test_errors(self):
        with self.assertRaises(InvalidStates) as caught:
            table(((), ()), world="soon")
        self.assertEqual(caught.exception.index, 0)
        with self.assertRaises(InvalidRow) as caught:
            table(((("held", False, False),), (("hold", ("free",), (), "take sold", ()),)), world="soon")
        self.assertEqual((caught.exception.index, caught.exception.part), (0, "deed"))
        for world in ("soon", "", "Late"):
            with self.assertRaises(BadWorld) as caught:
                table(book_of(HOLD), world=world)
            self.assertEqual(caught.exception.world, world)

    def test_changes_of_a_returned_list(self):
        book = book_of(HOLD, PAY)
        expected = tuple(table(book))
        rows = table(book)
        rows.clear()
        self.assertEqual(tuple(table(book)), expected)


if __name__ == "__main__":
    unittest.main()
