"""Points [21] and [22]: verdicts, and the checks of runs and of tables. Of "nobody", see test_fairness."""

import unittest

from onehold.errors import BadWorld, BadWrong, InvalidRow, InvalidSituation, InvalidStates
from onehold.tables import table
from onehold.verdicts import Verdict, is_run, is_table, let_in, verdict
from tests.samples import HOLD, OPEN_ROWS, PAY, book_of

FIRST = ("free", "", "none", ())
RUNNING = ("held", "running", "none", ())
OVER = ("held", "over", "none", ())
PAID = ("sold", "", "good", ("held",))
SHUT = ("", "", "shut", ())
CLOCK = ("", "clock", "", "")
TAKE = ("hold", "outsider", "still", "free")
PAYING = ("pay", "owner", "still", "my held")
AGAIN = ("pay", "owner", "same", "my held")
ELSEWHERE = ("pay", "owner", "old", "my held")
BOOK = book_of(HOLD, PAY)
NO_STATES = ((), ())
BAD_BOOK = ((("held", False, False),), (("hold", ("free",), (), "", ()),))


class Asking(unittest.TestCase):

    def check_error(self, kind, fields, function, *args, **more):
        """The call raises an error of this class with these fields."""
        with self.assertRaises(kind) as caught:
            function(*args, **more)
        self.assertIs(caught.exception.__class__, kind)
        self.assertEqual(vars(caught.exception), fields)

    def check_question_errors(self, function, *args):
        """The errors of the book come first, then that of the wrong, then that of the world."""
        for wrong in ("twice", "never"):
            for world in ("late", "soon"):
                self.check_error(InvalidStates, {"index": 0}, function, NO_STATES, wrong, *args, world=world)
                self.check_error(InvalidRow, {"index": 0, "part": "marks"}, function, BAD_BOOK, wrong, *args, world=world)
        for wrong in ("never", "", "Twice"):
            for world in ("late", "soon"):
                self.check_error(BadWrong, {"index": 0}, function, BOOK, wrong, *args, world=world)
        for wrong in ("twice", "nobody"):
            self.check_error(BadWorld, {"world": "soon"}, function, BOOK, wrong, *args, world="soon")


class Verdicts(Asking):
    """Point [21]."""

    def check(self, wrong, *path, book=BOOK, **more):
        """The verdict is not safe, and the path shows it; it is the only one of its length."""
        told = verdict(book, wrong, **more)
        self.assertIs(told.safe, False)
        self.assertIs(bool(told), False)
        self.assertEqual(told.path, list(path))
        self.assertIsInstance(told.path, list)
        self.assertEqual(told.steps, len([step for step in path if step != CLOCK]))
        self.assertEqual((told.members, told.events), (None, None))
        self.assertIs(is_run(book, wrong, told.path, **more), True)

    def check_safe(self, wrong, book=BOOK, **more):
        told = verdict(book, wrong, **more)
        self.assertEqual(vars(told), {"safe": True, "steps": None, "path": None, "members": None, "events": None})
        self.assertIs(told.safe, True)
        self.assertIs(bool(told), True)

    def test_the_class(self):
        self.assertEqual(vars(Verdict(True)), {"safe": True, "steps": None, "path": None, "members": None, "events": None})
        told = Verdict(False, 2, [CLOCK], (OVER,), [("open", 1)])
        self.assertEqual((told.safe, told.steps, told.path, told.members, told.events),
                         (False, 2, [CLOCK], (OVER,), [("open", 1)]))
        self.assertEqual(vars(Verdict(events=[], members=(), path=[], steps=0, safe=False)),
                         {"safe": False, "steps": 0, "path": [], "members": (), "events": []})
        self.assertIs(bool(Verdict(True, 3)), True)
        self.assertIs(bool(Verdict(False)), False)

    def test_twice(self):
        still = book_of(HOLD, "pay: my held ? same ! take sold, keep\n")
        self.check("twice", TAKE, PAYING, AGAIN, book=still)
        self.check_safe("twice", book=still, world="fresh")
        self.assertEqual(verdict(BOOK, "twice").steps, 3)
        self.check_safe("twice", world="fresh")

    def test_twice_of_two_that_pay(self):
        book = book_of("pay: free ? not sold ! take sold, keep\n", "tip: others sold ? still ! keep\n")
        path = [("pay", "outsider", "still", "free"), ("tip", "outsider", "still", "others sold")]
        self.check("twice", *path, book=book, world="fresh")
        self.check("astray", *path, book=book, world="fresh")

    def test_astray(self):
        self.check_safe("astray")
        self.check("astray", ("tip", "outsider", "still", "free"), book=book_of("tip: free ? still ! keep\n"))

    def test_unpaid(self):
        self.check_safe("unpaid")
        book = book_of("buy: free ? still ! take sold\n")
        self.check("unpaid", ("buy", "outsider", "still", "free"), book=book)

    def test_taken(self):
        self.check_safe("taken")
        book = book_of("hold: free ? still ! take held\n", "push: ? running ! free\n")
        self.check("taken", ("hold", "outsider", "still", "free"), ("push", "house", "", ""), book=book)
        self.check_safe("taken", book=book_of(HOLD, "lapse: ? over ! free\n"))

    def test_the_clock_is_on_the_path_but_not_counted(self):
        book = book_of("hold: free ? still ! take held\n", "late: my held ? still, over ! take sold\n")
        self.check("unpaid", ("hold", "outsider", "still", "free"), CLOCK, ("late", "owner", "still", "my held"), book=book)

    def test_the_shortest_of_several_ways(self):
        book = book_of("hold: free ? still ! take held\n", "sell: my held ? still ! move sold\n", "buy: free ? still ! take sold\n")
        self.check("unpaid", ("buy", "outsider", "still", "free"), book=book)

    def test_a_way_that_needs_a_past(self):
        """A letter with "same" and its view of a state that the owner saw at the same number."""
        book = book_of("hold: free ? still ! take held\n", "drop: my held ? still ! free\n",
                       "stale: my held ? same, at free ! take sold\n")
        self.check("unpaid", ("hold", "outsider", "still", "free"), ("drop", "owner", "still", "my held"),
                   ("stale", "owner", "same", "my held"), book=book)
        self.check_safe("unpaid", book=book, world="fresh")

    def test_the_world_is_late_if_left_out(self):
        self.assertEqual(vars(verdict(BOOK, "twice")), vars(verdict(BOOK, "twice", world="late")))
        self.assertEqual(verdict(book=BOOK, wrong="twice").steps, 3)
        with self.assertRaises(TypeError):
            verdict(BOOK, "twice", "late")

    def test_errors(self):
        self.check_question_errors(verdict)

    def test_changes_of_a_returned_path(self):
        told = verdict(BOOK, "twice")
        told.path.clear()
        self.assertEqual(len(verdict(BOOK, "twice").path), 3)


class Runs(Asking):
    """Point [22]: is_run."""

    def check(self, expected, wrong, *path, book=BOOK, **more):
        self.assertIs(is_run(book, wrong, list(path), **more), expected)

    def test_the_last_step_has_the_wrong(self):
        self.check(True, "twice", TAKE, PAYING, AGAIN)
        self.check(True, "twice", ("hold", "outsider", "old", "free"), CLOCK, ELSEWHERE, ELSEWHERE)
        self.check(False, "astray", TAKE, PAYING, AGAIN)
        self.check(False, "twice", TAKE, PAYING)

    def test_only_the_last_step_counts(self):
        book = book_of("buy: free ? ! take sold\n", "tell: my sold ? ! free\n")
        buying = ("buy", "outsider", "still", "free")
        self.check(True, "unpaid", buying, book=book)
        self.check(False, "unpaid", buying, ("tell", "owner", "still", "my sold"), book=book)

    def test_several_wrongs_at_one_step(self):
        book = book_of(HOLD, "push: others held ? ! take sold\n")
        path = [TAKE, ("push", "outsider", "still", "others held")]
        for wrong, expected in [("twice", False), ("astray", False), ("unpaid", True), ("taken", True)]:
            self.check(expected, wrong, *path, book=book)

    def test_no_steps(self):
        for wrong in ("twice", "astray", "unpaid", "taken", "nobody"):
            self.check(False, wrong)

    def test_tuples_that_are_no_such_steps(self):
        for wrong_step in [PAYING, CLOCK, (), ("hold",), ("hold", "owner", "still", "free"), ("hold", "outsider", "same", "free"),
                           ("hold", "outsider", "still", "my held"), ("other", "outsider", "still", "free"),
                           TAKE + ("",), ("hold", "house", "", ""), ("", "", "", "")]:
            self.check(False, "twice", wrong_step)
            self.check(False, "twice", wrong_step, PAYING, AGAIN)
        self.check(False, "twice", TAKE, PAYING, AGAIN, AGAIN)
        self.check(False, "twice", TAKE, CLOCK, CLOCK, PAYING, AGAIN)

    def test_the_worlds(self):
        self.check(True, "twice", TAKE, PAYING, AGAIN, world="late")
        self.check(False, "twice", TAKE, PAYING, AGAIN, world="fresh")
        book = book_of("buy: free ? ! take sold\n")
        self.check(True, "unpaid", ("buy", "outsider", "still", "free"), book=book, world="fresh")
        self.check(False, "unpaid", ("buy", "outsider", "old", "free"), book=book, world="fresh")
        self.check(True, "unpaid", ("buy", "outsider", "old", "free"), book=book)
        with self.assertRaises(TypeError):
            is_run(BOOK, "twice", [], "late")

    def test_errors(self):
        self.check_question_errors(is_run, [()])

    def test_what_is_passed_in_stays_as_it_was(self):
        path = [TAKE, PAYING, AGAIN]
        self.assertIs(is_run(book=BOOK, wrong="twice", path=path), True)
        self.assertEqual(path, [TAKE, PAYING, AGAIN])


class TableChecks(Asking):
    """Point [22]: is_table."""

    ROWS = [(SHUT, 3), (FIRST, 0), (OVER, 1), (RUNNING, 1), (PAID, 2)]

    def check(self, expected, rows, wrong="twice", steps=3, book=BOOK, **more):
        self.assertIs(is_table(book, wrong, rows, steps, **more), expected, (rows, steps))

    def test_tables_with_the_steps_of_verdicts(self):
        for book in (BOOK, book_of(), book_of(OPEN_ROWS), book_of(HOLD, "lapse: ? over ! free\n")):
            for wrong in ("twice", "astray", "unpaid", "taken", "nobody"):
                for world in ("late", "fresh"):
                    steps = verdict(book, wrong, world=world).steps
                    self.check(True, table(book, world=world), wrong, steps, book, world=world)
                    if steps is None:
                        self.check(True, table(book, world=world), wrong, 9, book, world=world)
                    else:
                        self.check(True, table(book, world=world), wrong, steps - 1, book, world=world)
                        self.check(False, table(book, world=world), wrong, steps + 1, book, world=world)
                        self.check(False, table(book, world=world), wrong, None, book, world=world)

    def test_any_order(self):
        self.check(True, self.ROWS)
        self.check(True, self.ROWS[::-1])

    def test_a_situation_twice(self):
        for row in self.ROWS:
            self.check(False, self.ROWS + [row])

    def test_the_first_situation(self):
        self.check(False, [])
        self.check(False, [(FIRST, 1)], book=book_of())
        self.check(False, [(FIRST, -1)], book=book_of())
        self.check(True, [(FIRST, 0)], book=book_of())
        self.check(False, [(SHUT, 0)], book=book_of())

    def test_each_next_situation_is_there(self):
        for missing in self.ROWS:
            self.check(False, [row for row in self.ROWS if row != missing])

    def test_numbers_rise_by_one_at_most(self):
        for changed, number, expected in [(RUNNING, 2, False), (PAID, 3, False), (SHUT, 4, False), (SHUT, 1, True),
                                          (SHUT, -5, True), (OVER, 2, False), (OVER, 0, False)]:
            self.check(expected, [(situation, number if situation == changed else old) for situation, old in self.ROWS])

    def test_the_clock_does_not_rise(self):
        book = book_of(HOLD)
        self.check(True, [(FIRST, 0), (RUNNING, 1), (OVER, 1)], book=book)
        self.check(True, [(FIRST, 0), (RUNNING, 1), (OVER, 0)], book=book)
        self.check(False, [(FIRST, 0), (RUNNING, 1), (OVER, 2)], book=book)
        self.check(False, [(FIRST, 0), (RUNNING, 1)], book=book)

    def test_steps_with_the_wrong(self):
        for steps, expected in [(None, False), (4, False), (3, True), (2, True), (0, True), (-1, True)]:
            self.check(expected, self.ROWS, steps=steps)
            self.check(True, self.ROWS, "taken", steps)

    def test_further_situations(self):
        """Situations that no run reaches may be there; what is said of all rows is said of them, too."""
        astray = ("free", "", "astray", ())
        self.check(False, self.ROWS + [(astray, 6)])
        for number, expected in [(8, False), (7, True), (2, True), (1, False)]:
            held = [(("held", clock, "astray", ()), number) for clock in ("over", "running")]
            self.check(expected, self.ROWS + [(astray, 6)] + held)
        rows = self.ROWS + [(astray, 6)] + [(("held", clock, "astray", ()), 7) for clock in ("over", "running")]
        for steps, expected in [(None, False), (8, False), (7, True), (1, True)]:
            self.check(expected, rows, "astray", steps)

    def test_the_worlds(self):
        rows = self.ROWS[1:]
        self.check(True, rows, steps=None, world="fresh")
        self.check(False, rows, steps=None, world="late")
        self.check(False, rows, steps=None)
        with self.assertRaises(TypeError):
            is_table(BOOK, "twice", rows, None, "fresh")

    def test_errors(self):
        self.check_question_errors(is_table, [(("no",), 0)], None)
        for situation in [(), ("free",), ("none", "", "none", ()), ("held", "", "none", ()), ("free", "", "good", ()),
                          ("free", "", "none", ("sold", "held")), ("free", "", "none", ("held", "held")),
                          ("", "", "shut", ("held",)), ("free", "", "none", (), ())]:
            for rows in ([(situation, 0)], self.ROWS + [(situation, 1)], self.ROWS[:1] * 2 + [(situation, 9)]):
                self.check_error(InvalidSituation, {}, is_table, BOOK, "twice", rows, None)

    def test_what_is_passed_in_stays_as_it_was(self):
        rows = list(self.ROWS)
        self.assertIs(is_table(book=BOOK, wrong="twice", rows=rows, steps=3), True)
        self.assertEqual(rows, self.ROWS)


class LettingIn(Asking):
    """Point [22]: let_in."""

    SITUATIONS = [FIRST, RUNNING, OVER, PAID, SHUT]

    def check(self, expected, *rows, wrong="taken", situations=None):
        further = book_of(*rows)[1]
        found = let_in(BOOK, wrong, self.SITUATIONS if situations is None else situations, further)
        self.assertEqual(found, expected)

    def test_rows_that_stay_in_the_situations(self):
        self.check(["again", "never"], "again: free ? at free ! take held\n",
                   "never: my held ? at sold, at held ! free\n", "drop: my held ? mine ! free\n")

    def test_rows_in_order(self):
        rows = [f"{name}: free ? at free ! take held\n" for name in ("d", "a", "c", "b")]
        self.check(["d", "a", "c", "b"], *rows)

    def test_a_wrong_that_a_row_brings(self):
        situations = [("held", clock, money, past) for clock in ("running", "over") for money in ("none", "astray")
                      for past in ((), ("held",))]
        rows = ["grab: others held ? ! take held\n", "late: others held ? over ! take held\n", "tip: my held ? unpaid ! keep\n"]
        self.check(["late", "tip"], *rows, wrong="taken", situations=situations)
        self.check(["grab", "late", "tip"], *rows, wrong="twice", situations=situations)
        self.check(["grab", "late", "tip"], *rows, wrong="unpaid", situations=situations)
        # A payment that is astray stays so: each step there is one with this wrong.
        self.check([], *rows, wrong="astray", situations=situations)

    def test_all_steps_of_the_world_late(self):
        """A page that lags may do what a fresh one does not."""
        row = "drop: my held ? at sold ! refund\n"
        self.check([], row, situations=[PAID])
        self.check(["drop"], "drop: my held ? at sold, still ! refund\n", situations=[PAID])
        self.check(["drop"], row, situations=[RUNNING, FIRST])

    def test_the_clock_is_no_step_of_a_row(self):
        self.check(["longer"], "longer: my held ? mine ! time\n",
                   situations=[RUNNING, ("held", "running", "none", ("held",))])

    def test_no_situations(self):
        self.check(["a", "b"], "a: free ? ! take held\n", "b: my held ? ! free\n", situations=[])

    def test_no_further_rows(self):
        self.assertEqual(let_in(BOOK, "taken", self.SITUATIONS, ()), [])

    def test_the_rows_of_the_book_do_not_count(self):
        """pay leads from RUNNING to PAID, which is not among the situations."""
        self.check(["wait"], "wait: others held ? over ! free\n", situations=[RUNNING])

    def test_what_is_let_in_goes_into_the_book(self):
        book = book_of(HOLD, PAY)
        situations = [situation for situation, _ in table(book)]
        further = book_of("a: free ? at free ! take held\n", "b: my held ? mine, over ! take sold, keep\n",
                          "c: ? over ! free\n", "d: my sold ? mine ! refund\n")[1]
        names = let_in(book, "unpaid", situations, further)
        self.assertEqual(names, ["a", "b"])
        more = (book[0], book[1] + tuple([row for row in further if row[0] in names]))
        self.assertEqual(table(more), table(book))
        self.assertTrue(verdict(more, "unpaid").safe)

    def test_errors(self):
        good = book_of("a: free ? ! take held\n")[1]
        twice = (("pay", ("free",), (), "free", ()),)
        no_situation = [("held", "", "none", ())]
        for wrong in ("twice", "nobody"):
            self.check_error(InvalidStates, {"index": 0}, let_in, NO_STATES, wrong, no_situation, twice)
            self.check_error(InvalidRow, {"index": 0, "part": "marks"}, let_in, BAD_BOOK, wrong, no_situation, twice)
        for wrong in ("nobody", "never", ""):
            self.check_error(BadWrong, {"index": 0}, let_in, BOOK, wrong, no_situation, twice)
        self.check_error(InvalidRow, {"index": 2, "part": "name"}, let_in, BOOK, "taken", no_situation, twice)
        self.check_error(InvalidRow, {"index": 3, "part": "name"}, let_in, BOOK, "taken", no_situation, good + good)
        bad_looks = (("b", (), ("mine",), "free", ()),)
        self.check_error(InvalidRow, {"index": 3, "part": "looks"}, let_in, BOOK, "taken", [], good + bad_looks)
        self.check_error(InvalidSituation, {}, let_in, BOOK, "taken", no_situation, good)
        self.check_error(InvalidSituation, {}, let_in, BOOK, "taken", [FIRST, ()], ())

    def test_lists_that_are_changed(self):
        situations = list(self.SITUATIONS)
        further = book_of("a: free ? at free ! take held\n")[1]
        names = let_in(book=BOOK, wrong="taken", situations=situations, further=further)
        names.append("b")
        self.assertEqual(situations, self.SITUATIONS)
        self.assertEqual(let_in(BOOK, "taken", situations, further), ["a"])


if __name__ == "__main__":
    unittest.main()
