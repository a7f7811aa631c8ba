"""Point [23]: fair sets, and the verdicts of "nobody"."""

import unittest

from onehold.errors import BadWorld, InvalidRow, InvalidSituation, InvalidStates
from onehold.fairness import fair_sets, is_fair_set
from onehold.tables import table
from onehold.verdicts import is_run, is_table, verdict
from tests.samples import HOLD, PAY, book_of

FIRST = ("free", "", "none", ())
RUNNING = ("held", "running", "none", ())
OVER = ("held", "over", "none", ())
LONGER = ("held", "running", "none", ("held",))
LONGER_OVER = ("held", "over", "none", ("held",))
CLOCK = ("", "clock", "", "")
TAKE = ("hold", "outsider", "still", "free")
KEPT = "states: kept, sold sold\n"
KEEP = "hold: free ? at free ! take kept\n"
STAY = ("kept", "", "none", ())
STAYED = ("kept", "", "none", ("kept",))


class FairSets(unittest.TestCase):

    def check(self, book, late, fresh):
        """These are the fair sets of the two worlds; each one is fair, and no part of it and no more of it is needed."""
        for world, expected in (("late", late), ("fresh", fresh)):
            found = fair_sets(book, world=world)
            self.assertEqual(found, expected, world)
            for members in found:
                self.assertIs(is_fair_set(book, list(members), world=world), True)
                self.assertIs(is_fair_set(book, list(members[::-1]), world=world), True)
                self.assertIs(is_fair_set(book, list(members) + [members[0]], world=world), False)
                self.assertIs(is_fair_set(book, list(members) + [FIRST], world=world), False)

    def test_a_hold_that_nothing_ends(self):
        self.check(book_of(HOLD), [(OVER,)], [(OVER,)])
        self.check(book_of(HOLD, PAY), [(OVER,)], [(OVER,)])

    def test_a_hold_without_a_time(self):
        self.check(book_of(KEEP, states=KEPT), [(STAY,)], [(STAY,)])

    def test_a_sweep_ends_it(self):
        self.check(book_of(HOLD, "lapse: ? over ! free\n"), [], [])
        self.check(book_of(KEEP, "clear: ? ! free\n", states=KEPT), [], [])

    def test_a_sweep_that_cannot_be_done(self):
        self.check(book_of(HOLD, "lapse: ? over, paid ! free\n"), [(OVER,)], [(OVER,)])

    def test_a_letter_of_an_outsider_ends_it(self):
        for deed in ("free", "take held", "move sold", "take sold"):
            self.check(book_of(HOLD, f"grab: others held ? over ! {deed}\n"), [], [])

    def test_a_letter_that_only_a_stale_page_sends_need_not_be_sent(self):
        for row in ["grab: free ? over ! free\n", "grab: my held ? over ! free\n", "grab: others held ? mine, over ! free\n"]:
            self.check(book_of(HOLD, row), [(OVER,)], [(OVER,)])

    def test_the_holder_sends_nothing(self):
        self.check(book_of(HOLD, "drop: my held ? mine ! free\n"), [(OVER,)], [(OVER,)])

    def test_a_holder_whose_time_others_make_longer(self):
        """In the world fresh an outsider never sees "my held"."""
        book = book_of(HOLD, "again: others held ? over ! take held\n", "longer: my held ? at held ! time\n",
                       states="states: held timed\n")
        self.check(book, [(LONGER,)], [])
        book = book_of(HOLD, "again: others held ? over ! take held\n", "longer: others held ? at held, running ! time\n")
        self.check(book, [(LONGER,)], [(LONGER,)])

    def test_a_step_that_sets_no_time(self):
        """Time does not go on for ever where a time runs that nobody sets anew."""
        self.check(book_of(HOLD, "again: others held ? over ! take held\n", "ask: others held ? running ! refund\n"), [], [])

    def test_a_helper_step_that_leads_on(self):
        """The sweep is done again and again, so the hold does not stay in its first state."""
        states = "states: held, kept, sold sold\n"
        book = book_of(HOLD, "next: ? at held ! move kept\n", "back: ? at kept ! move held\n", states=states)
        both = (("held", "", "none", ("held", "kept")), ("kept", "", "none", ("held", "kept")))
        self.check(book, [both], [both])
        for member in both:
            self.assertIs(is_fair_set(book, [member]), False)
        book = book_of(HOLD, "next: ? at held ! move kept\n", "sell: ? at kept ! move sold\n", states=states)
        self.check(book, [], [])

    def test_a_helper_step_that_comes_back_by_the_clock(self):
        book = book_of(HOLD, "renew: ? over ! time\n")
        both = (LONGER_OVER, LONGER)
        self.check(book, [both], [both])
        self.assertIs(is_fair_set(book, [OVER]), False)
        self.assertIs(is_fair_set(book, [LONGER_OVER]), False)

    def test_a_new_number_leaves_the_hold(self):
        book = book_of(HOLD, "count: others held ? over ! new\n", "stir: ? ! refund\n")
        self.check(book, [(OVER, LONGER_OVER)], [(OVER, LONGER_OVER)])

    def test_a_helper_step_out_of_a_greater_part(self):
        """kept and held lead to each other, but from held a sweep leads to a free seat."""
        states = "states: held, kept\n"
        book = book_of(HOLD, "next: ? at held ! move kept\n", "back: others kept ? ! move held\n", "end: ? at held ! free\n",
                       states=states)
        self.check(book, [], [])

    def test_a_part_of_a_greater_part(self):
        """Over and running lead to each other, but from over a helper step also leads on, to the other set."""
        book = book_of("hold: free ? at free ! take held\n", "stay: others held ? ! move held\n",
                       "tip: others held ? over ! move held, keep\n")
        sets = [(("held", "running", "astray", ("held",)),), (LONGER,)]
        self.check(book, sets, sets)
        self.assertIs(is_fair_set(book, [LONGER_OVER, LONGER]), False)

    def test_ways_that_need_a_past(self):
        """Only a page that saw "others kept" at the same number makes the hold longer."""
        rows = ["first: free ? at free ! take kept\n", "next: my kept ? mine ! move held\n", "stir: my held ? ! refund\n",
                "again: others held ? over ! take held\n", "renew: others kept ? same, running ! time\n"]
        book = book_of(HOLD, *rows, "end: others kept ? ! free\n", states="states: held timed, kept\n")
        seen = ("held", "running", "none", ("held", "kept"))
        self.check(book, [(seen,)], [])
        self.assertIn(LONGER, [situation for situation, _ in table(book)])
        self.assertIs(is_fair_set(book, [LONGER]), False)

    def test_several_sets_in_order(self):
        book = book_of(KEEP, "stir: my kept ? ! refund\n", states=KEPT)
        self.check(book, [(STAY,), (STAYED,)], [(STAY,), (STAYED,)])

    def test_ways_between_members(self):
        """Letters of outsiders with any age lead from member to member in the world late, but nobody has to send them."""
        book = book_of(HOLD, "turn: free ? at held ! move kept\n", "back: free ? at kept ! move held\n",
                       states="states: held, kept\n")
        past = ("held", "kept")
        late = (("held", "", "none", past), ("kept", "", "none", past))
        alone = (("held", "", "none", ()),)
        self.check(book, [alone, late, (("kept", "", "none", ("held",)),)], [alone])

    def test_books_without_holds(self):
        self.check(book_of(), [], [])
        self.check(book_of("buy: free ? ! take sold\n"), [], [])

    def test_situations_that_are_not_held(self):
        book = book_of(KEEP, PAY.replace("held", "kept"), states=KEPT)
        for situation in (FIRST, ("sold", "", "good", ("kept",)), ("", "", "shut", ())):
            self.assertIs(is_fair_set(book, [situation]), False)

    def test_situations_that_no_run_reaches(self):
        book = book_of(KEEP, states=KEPT)
        self.assertIs(is_fair_set(book, [("kept", "", "astray", ("free", "sold"))]), True)
        self.assertIs(is_fair_set(book, [STAY, STAYED]), False)
        self.assertIs(is_fair_set(book_of(HOLD), [RUNNING]), False)
        self.assertIs(is_fair_set(book_of(HOLD), [RUNNING, OVER]), False)

    def test_no_situations(self):
        for world in ("late", "fresh"):
            self.assertIs(is_fair_set(book_of(HOLD), [], world=world), False)

    def test_the_world_is_late_if_left_out(self):
        book = book_of(HOLD, "again: others held ? over ! take held\n", "longer: my held ? at held ! time\n")
        self.assertEqual(fair_sets(book), fair_sets(book, world="late"))
        self.assertIs(is_fair_set(book=book, situations=[LONGER]), True)
        self.assertIs(is_fair_set(book, [LONGER], world="fresh"), False)
        with self.assertRaises(TypeError):
            fair_sets(book, "late")
        with self.assertRaises(TypeError):
            is_fair_set(book, [LONGER], "late")

    def test_errors(self):
        bad_row = ((("held", False, False),), (("hold", ("free",), (), "take sold", ()),))
        for function, more in [(fair_sets, ()), (is_fair_set, ([("none",)],)), (is_fair_set, ([],))]:
            with self.assertRaises(InvalidStates) as caught:
                function(((), ()), *more, world="soon")
            self.assertEqual(caught.exception.index, 0)
            with self.assertRaises(InvalidRow) as caught:
                function(bad_row, *more, world="soon")
            self.assertEqual((caught.exception.index, caught.exception.part), (0, "deed"))
            with self.assertRaises(BadWorld) as caught:
                function(book_of(HOLD), *more, world="soon")
            self.assertEqual(caught.exception.world, "soon")
        for situation in [(), ("held", "", "none", ()), ("none", "", "none", ()), ("held", "over", "good", ()),
                          ("held", "over", "none", ("held", "free")), ("", "", "shut", ("free",))]:
            for situations in ([situation], [FIRST, situation], [OVER, OVER, situation]):
                with self.assertRaises(InvalidSituation):
                    is_fair_set(book_of(HOLD), situations)

    def test_lists_that_are_changed(self):
        book = book_of(HOLD)
        found = fair_sets(book)
        found.clear()
        self.assertEqual(fair_sets(book), [(OVER,)])
        situations = [OVER]
        self.assertIs(is_fair_set(book, situations), True)
        self.assertEqual(situations, [OVER])


class Nobody(unittest.TestCase):
    """The verdicts of [21] and the checks of [22] for "nobody"."""

    def test_a_verdict_that_is_not_safe(self):
        told = verdict(book_of(HOLD), "nobody")
        self.assertEqual((told.safe, told.steps, told.members, told.events), (False, 1, (OVER,), None))
        self.assertEqual(told.path[-1], CLOCK)
        self.assertEqual([step[:2] for step in told.path], [("hold", "outsider"), ("", "clock")])
        self.assertIs(bool(told), False)

    def test_a_verdict_that_is_safe(self):
        told = verdict(book_of(HOLD, "lapse: ? over ! free\n"), "nobody")
        self.assertEqual(vars(told), {"safe": True, "steps": None, "path": None, "members": None, "events": None})

    def test_the_least_number_of_steps_to_any_member(self):
        book = book_of(HOLD, "lapse: ? over ! free\n", "wait: my held ? mine ! move kept\n", "stir: ? at kept ! refund\n",
                       states="states: held timed, kept\n")
        told = verdict(book, "nobody", world="fresh")
        self.assertEqual((told.steps, told.members), (3, (("kept", "", "none", ("held", "kept")),)))
        self.assertEqual(told.path, [TAKE, ("wait", "owner", "still", "my held"), ("stir", "house", "", "")])

    def test_the_worlds(self):
        book = book_of(HOLD, "again: others held ? over ! take held\n", "longer: my held ? at held ! time\n")
        self.assertEqual((verdict(book, "nobody").steps, verdict(book, "nobody").members), (2, (LONGER,)))
        self.assertTrue(verdict(book, "nobody", world="fresh").safe)

    def test_runs(self):
        book = book_of(HOLD, "again: others held ? over ! take held\n", "longer: my held ? at held ! time\n")
        longer = ("longer", "owner", "still", "my held")
        for path, late in [([], False), ([TAKE], False), ([TAKE, longer], True), ([TAKE, longer, longer], True),
                           ([TAKE, longer, CLOCK], False), ([longer], False), ([TAKE, ("longer", "outsider", "old", "my held")], True)]:
            self.assertIs(is_run(book, "nobody", path), late)
            self.assertIs(is_run(book, "nobody", path, world="fresh"), False)
        self.assertIs(is_run(book_of(HOLD), "nobody", [TAKE, CLOCK], world="fresh"), True)
        self.assertIs(is_run(book_of(HOLD), "nobody", [TAKE], world="fresh"), False)

    def test_tables(self):
        book = book_of(HOLD)
        rows = table(book)
        for steps, expected in [(None, False), (2, False), (1, True), (0, True)]:
            self.assertIs(is_table(book, "nobody", rows, steps), expected)
        self.assertIs(is_table(book, "nobody", [(FIRST, 0), (RUNNING, 1), (OVER, 0)], 1), False)
        self.assertIs(is_table(book, "nobody", rows + [(LONGER_OVER, 0)], 1), False)
        self.assertIs(is_table(book, "nobody", rows + [(LONGER_OVER, 5)], 1), True)
        safe = book_of(HOLD, "lapse: ? over ! free\n")
        self.assertIs(is_table(safe, "nobody", table(safe), None), True)

    def test_a_fair_set_among_the_rows_that_no_run_reaches(self):
        book = book_of("buy: free ? at free ! take sold\n", states=KEPT)
        self.assertIs(is_table(book, "nobody", table(book), None), True)
        self.assertIs(is_table(book, "nobody", table(book) + [(STAY, 7)], None), False)
        self.assertIs(is_table(book, "nobody", table(book) + [(STAY, 7)], 7), True)


if __name__ == "__main__":
    unittest.main()
