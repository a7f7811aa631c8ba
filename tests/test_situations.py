"""Points [17] to [19]: situations, their steps, and what a step does."""

import unittest

from onehold.errors import BadWorld, InvalidRow, InvalidSituation, NotDone
from onehold.houses import play
from onehold.situations import after, effect, steps_at
from tests.samples import ALL, HOLD, OPEN_ROWS, PAY, book_of, house_of, open_house

FIRST = ("free", "", "none", ())
SHUT = ("", "", "shut", ())
HELD = ("held", "running", "none", ())
OPEN = book_of(OPEN_ROWS)


def row_steps(book, situation, name, world="late"):
    """The steps of one row, without its name."""
    return [step[1:] for step in steps_at(book, situation, world=world) if step[0] == name]


class SituationOfASeat(unittest.TestCase):
    """Point [17], by houses."""

    def test_the_first_one(self):
        house = house_of(HOLD, seats=2)
        house.open_page(5)
        house.send(0, "hold", 1)
        self.assertEqual(house.situation(0), FIRST)
        self.assertEqual(house.situation(1), HELD)

    def test_the_clock(self):
        house = open_house(5)
        house.send(0, "hold", 0, length=3)
        house.tick(3)
        self.assertEqual(house.situation(0), HELD)
        house.tick()
        self.assertEqual(house.situation(0), ("held", "over", "none", ()))
        house.send(0, "longer", 0)
        self.assertEqual(house.situation(0), ("held", "running", "none", ("held",)))
        house.send(0, "buy", 0)
        house.tick(9)
        self.assertEqual(house.situation(0), ("sold", "", "none", ("held",)))

    def test_money(self):
        house = open_house(5, 6)
        house.send(0, "pay", 0)
        self.assertEqual(house.situation(0), ("sold", "", "good", ()))
        house.send(0, "close", 0)
        self.assertEqual(house.situation(0), ("sold", "", "good", ("sold",)))
        house.send(1, "buy", 0)
        self.assertEqual(house.situation(0), ("sold", "", "astray", ()))
        house.send(1, "back", 0)
        self.assertEqual(house.situation(0), ("sold", "", "none", ("sold",)))

    def test_shut(self):
        house = open_house(5, 6)
        house.send(0, "pay", 0)
        house.send(0, "close", 0)
        house.send(1, "tip", 0)
        self.assertEqual(house.situation(0), SHUT)
        house.tick(3)
        self.assertEqual(house.situation(0), SHUT)

    def test_the_past(self):
        house = open_house(5, 6)
        pasts = []
        for page, name in [(0, "back"), (0, "back"), (0, "hold"), (0, "back"), (0, "buy"), (0, "leave"), (1, "back"),
                           (0, "hold"), (1, "turn"), (0, "fresh"), (0, "turn"), (1, "leave")]:
            self.assertTrue(house.send(page, name, 0), name)
            pasts.append(house.situation(0)[3])
        self.assertEqual(pasts, [("free",), ("free",), (), ("held",), ("held",), ("held", "sold"), ("free", "held", "sold"),
                                 (), ("held",), (), ("held",), ("held",)])

    def test_refused_steps_leave_it(self):
        house = house_of(HOLD)
        play(house, [("open", 1), ("press", 0, "hold", (0,)), ("press", 0, "hold", (0,)), ("comes", 0, 1)])
        self.assertIs(house.comes(1), False)
        self.assertEqual(house.situation(0), HELD)


class Steps(unittest.TestCase):
    """Point [18]."""

    def test_the_first_situation_has_no_owner(self):
        book = book_of(HOLD, "stop: free, my held ? ! refund\n")
        self.assertEqual(list(steps_at(book, FIRST)), [
            ("hold", "outsider", "still", "free"), ("hold", "outsider", "old", "free"),
            ("stop", "outsider", "still", "free"), ("stop", "outsider", "old", "free"),
            ("stop", "outsider", "old", "my held")])

    def test_free_again_at_number_0(self):
        self.assertEqual(row_steps(book_of("tip: free, others held ? ! keep\n"), ("free", "", "astray", ("free",)), "tip"), [
            ("outsider", "still", "free"), ("outsider", "same", "free"),
            ("outsider", "old", "free"), ("outsider", "old", "others held")])

    def test_every_role_age_and_word(self):
        book = book_of("tap: others sold, free, my held, others held ? ! time\n")
        self.assertEqual(list(steps_at(book, ("held", "running", "none", ("free", "held", "sold")))), [
            ("tap", "owner", "still", "my held"),
            ("tap", "owner", "same", "free"), ("tap", "owner", "same", "my held"),
            ("tap", "owner", "old", "others sold"), ("tap", "owner", "old", "free"),
            ("tap", "owner", "old", "my held"), ("tap", "owner", "old", "others held"),
            ("tap", "outsider", "still", "others held"),
            ("tap", "outsider", "same", "others sold"), ("tap", "outsider", "same", "free"),
            ("tap", "outsider", "same", "others held"),
            ("tap", "outsider", "old", "others sold"), ("tap", "outsider", "old", "free"),
            ("tap", "outsider", "old", "my held"), ("tap", "outsider", "old", "others held"),
            ("", "clock", "", "")])

    def test_the_owner_of_a_seat_that_is_free_again(self):
        book = book_of("hold: free, my held, others held ? ! take held\n")
        self.assertEqual(list(steps_at(book, ("free", "", "none", ("held",)))), [
            ("hold", "owner", "still", "free"), ("hold", "owner", "same", "my held"),
            ("hold", "owner", "old", "free"), ("hold", "owner", "old", "my held"), ("hold", "owner", "old", "others held"),
            ("hold", "outsider", "still", "free"), ("hold", "outsider", "same", "others held"),
            ("hold", "outsider", "old", "free"), ("hold", "outsider", "old", "my held"),
            ("hold", "outsider", "old", "others held")])

    def test_the_fresh_world(self):
        book = book_of("tap: free, my held, others held ? ! time\n", "lapse: ? ! free\n")
        self.assertEqual(list(steps_at(book, ("held", "running", "none", ("free", "held")), world="fresh")), [
            ("tap", "owner", "still", "my held"), ("tap", "outsider", "still", "others held"),
            ("lapse", "house", "", ""), ("", "clock", "", "")])

    def test_rows_in_order_and_the_clock_last(self):
        book = book_of("drop: ? ! free\n", HOLD, "b: my held ? ! time\n", "a: ? running ! time\n", "c: my held ? ! free\n")
        names = [step[0] for step in steps_at(book, HELD, world="fresh")]
        self.assertEqual(names, ["drop", "b", "a", "c", ""])

    def test_the_clock_of_an_over_time(self):
        book = book_of("lapse: ? over ! free\n", "early: ? running ! free\n")
        self.assertEqual(list(steps_at(book, ("held", "over", "none", ()))), [("lapse", "house", "", "")])
        self.assertEqual(list(steps_at(book, HELD)), [("early", "house", "", ""), ("", "clock", "", "")])
        self.assertEqual(list(steps_at(book, ("sold", "", "good", ()))), [])
        self.assertEqual(list(steps_at(book, FIRST)), [])

    def test_sweeps_that_are_refused(self):
        book = book_of("a: ? at free ! refund\n", "b: ? unpaid ! move held\n", "c: ? paid ! move held\n", "d: ? ! time\n")
        self.assertEqual([step[0] for step in steps_at(book, FIRST)], ["a"])
        self.assertEqual([step[0] for step in steps_at(book, ("sold", "", "good", ()))], ["c"])
        self.assertEqual([step[0] for step in steps_at(book, ("held", "over", "none", ()))], ["b", "d"])

    def test_a_shut_situation(self):
        self.assertEqual(list(steps_at(OPEN, SHUT)), [])
        self.assertEqual(list(steps_at(OPEN, SHUT, world="fresh")), [])

    def test_unreached_situations(self):
        book = book_of(HOLD)
        self.assertEqual(list(steps_at(book, ("sold", "", "good", ("free", "held", "sold")))), [])
        self.assertEqual(row_steps(book, ("free", "", "astray", ("sold",)), "hold"), [
            ("owner", "still", "free"), ("owner", "old", "free"),
            ("outsider", "still", "free"), ("outsider", "old", "free")])

    def test_an_empty_book(self):
        self.assertEqual(list(steps_at(book_of(), FIRST)), [])
        self.assertEqual(list(steps_at(book_of(), HELD)), [("", "clock", "", "")])


class LooksOfSteps(unittest.TestCase):
    """Which roles and ages a look lets pass, in point [18]."""

    def check(self, look, situation, *expected):
        book = book_of(f"ask: {ALL} ? {look} ! keep\n")
        found = []
        for role, age, _ in row_steps(book, situation, "ask"):
            if (role, age) not in found:
                found.append((role, age))
        self.assertEqual(found, list(expected), (look, situation))

    def test_each_look(self):
        held = ("held", "running", "none", ("held",))
        over = ("held", "over", "astray", ("held",))
        free = ("free", "", "none", ("held",))
        owner = [("owner", "still"), ("owner", "same"), ("owner", "old")]
        outsider = [("outsider", "still"), ("outsider", "same"), ("outsider", "old")]
        for look in ["at held", "not free", "not sold", "running", "unpaid"]:
            self.check(look, held, *owner, *outsider)
        for look in ["at free", "at sold", "not held", "over", "paid"]:
            self.check(look, held)
        for look in ["over", "paid", "at held"]:
            self.check(look, over, *owner, *outsider)
        for look in ["running", "unpaid"]:
            self.check(look, over)
        self.check("mine", held, *owner)
        self.check("other", held, *outsider)
        for situation in (held, over, free):
            self.check("same", situation, *owner[:2], *outsider[:2])
            self.check("still", situation, owner[0], outsider[0])
        for look in ["mine", "other", "running", "over", "at held", "paid"]:
            self.check(look, free)
        for look in ["at free", "not held", "unpaid"]:
            self.check(look, free, *owner, *outsider)
        self.check("paid", ("sold", "", "good", ("held",)), *owner, *outsider)
        self.check("running", ("sold", "", "good", ("held",)))
        self.check("over", ("sold", "", "good", ("held",)))

    def test_needs_of_deeds_and_new(self):
        names = [name for name in ("hold", "buy", "pay", "tip", "back", "turn", "close", "leave", "longer", "fresh")]
        done = {
            FIRST: ["hold", "buy", "pay", "tip", "back"],
            HELD: names,
            ("sold", "", "good", ()): [name for name in names if name != "longer"],
        }
        for situation, expected in done.items():
            found = [name for name in names if row_steps(OPEN, situation, name)]
            self.assertEqual(found, expected, situation)


class After(unittest.TestCase):
    """Point [19]."""

    def check(self, situation, name, role, expected, *wrongs, book=OPEN):
        """Each step of the row and the role leads there with these wrongs."""
        steps = [step for step in steps_at(book, situation) if step[:2] == (name, role)]
        self.assertTrue(steps, (situation, name, role))
        for step in steps:
            self.assertEqual(after(book, situation, step), (expected, wrongs), (situation, step))

    def test_the_clock(self):
        self.check(("held", "running", "astray", ("free", "held")), "", "clock", ("held", "over", "astray", ("free", "held")))
        self.check(HELD, "", "clock", ("held", "over", "none", ()))

    def test_take(self):
        self.check(FIRST, "hold", "outsider", HELD)
        self.check(("free", "", "none", ("free", "held")), "hold", "owner", HELD)
        self.check(("free", "", "none", ("held",)), "buy", "outsider", ("sold", "", "none", ()), "unpaid")
        self.check(HELD, "hold", "owner", ("held", "running", "none", ("held",)))
        self.check(("held", "over", "none", ("free",)), "hold", "owner", ("held", "running", "none", ("free", "held")))
        self.check(HELD, "hold", "outsider", HELD, "taken")
        self.check(("held", "over", "none", ("held",)), "hold", "outsider", HELD)
        self.check(HELD, "buy", "owner", ("sold", "", "none", ("held",)), "unpaid")

    def test_move(self):
        self.check(HELD, "close", "outsider", ("sold", "", "none", ("held",)), "unpaid")
        self.check(("sold", "", "good", ("held",)), "turn", "outsider", ("held", "running", "astray", ("held", "sold")), "astray")
        self.check(("held", "over", "none", ()), "turn", "outsider", ("held", "running", "none", ("held",)))

    def test_free(self):
        self.check(HELD, "leave", "owner", ("free", "", "none", ("held",)))
        self.check(HELD, "leave", "outsider", ("free", "", "none", ("held",)), "taken")
        self.check(("held", "over", "none", ()), "leave", "outsider", ("free", "", "none", ("held",)))
        self.check(("sold", "", "good", ()), "leave", "outsider", ("free", "", "astray", ("sold",)), "astray", "taken")

    def test_time(self):
        self.check(("held", "over", "none", ("sold",)), "longer", "outsider", ("held", "running", "none", ("held", "sold")))

    def test_marks_alone_leave_the_clock(self):
        for clock in ("running", "over"):
            situation = ("held", clock, "none", ("free",))
            self.check(situation, "back", "owner", ("held", clock, "none", ("free", "held")))
            self.check(situation, "fresh", "owner", ("held", clock, "none", ()))
            self.check(situation, "tip", "owner", ("held", clock, "astray", ("free", "held")), "astray")

    def test_new(self):
        book = book_of("renew: my held ? ! move held, new\n", "retake: others held ? ! take held, new\n")
        self.check(("held", "over", "none", ("free", "held")), "renew", "owner", HELD, book=book)
        self.check(("held", "over", "none", ("free", "held")), "retake", "outsider", HELD, book=book)

    def test_money(self):
        good = ("sold", "", "good", ())
        self.check(FIRST, "pay", "outsider", good)
        self.check(FIRST, "tip", "outsider", ("free", "", "astray", ("free",)), "astray")
        self.check(HELD, "pay", "outsider", good, "taken")
        self.check(good, "close", "outsider", ("sold", "", "good", ("sold",)))
        self.check(good, "buy", "owner", ("sold", "", "good", ("sold",)))
        self.check(good, "buy", "outsider", ("sold", "", "astray", ()), "astray", "taken")
        self.check(good, "back", "outsider", ("sold", "", "none", ("sold",)), "unpaid")
        self.check(("sold", "", "none", ()), "tip", "owner", ("sold", "", "good", ("sold",)))
        self.check(("sold", "", "none", ()), "tip", "outsider", ("sold", "", "astray", ("sold",)), "astray")

    def test_astray_stays_until_a_refund(self):
        astray = ("sold", "", "astray", ())
        self.check(astray, "close", "owner", ("sold", "", "astray", ("sold",)), "astray")
        self.check(astray, "buy", "owner", ("sold", "", "astray", ("sold",)), "astray")
        self.check(astray, "back", "owner", ("sold", "", "none", ("sold",)), "unpaid")
        book = book_of(f"swap: {ALL} ? ! take sold, keep, refund\n")
        self.check(astray, "swap", "owner", ("sold", "", "good", ("sold",)), book=book)
        self.check(astray, "swap", "outsider", ("sold", "", "good", ()), "taken", book=book)

    def test_twice(self):
        self.check(("sold", "", "good", ("held",)), "pay", "owner", SHUT, "twice")
        self.check(("sold", "", "good", ()), "tip", "outsider", SHUT, "twice", "astray")
        self.check(("sold", "", "good", ()), "pay", "outsider", SHUT, "twice", "astray", "taken")
        self.check(("held", "over", "astray", ()), "pay", "outsider", SHUT, "twice", "astray")

    def test_sweeps(self):
        book = book_of("drop: ? ! free\n", "sell: ? ! move sold\n", "give: ? ! move held, new, refund\n")
        self.check(HELD, "drop", "house", ("free", "", "none", ("held",)), "taken", book=book)
        self.check(("held", "over", "none", ()), "drop", "house", ("free", "", "none", ("held",)), book=book)
        self.check(HELD, "sell", "house", ("sold", "", "none", ("held",)), "unpaid", book=book)
        self.check(("sold", "", "astray", ("free",)), "give", "house", HELD, book=book)

    def test_a_state_that_is_neither_timed_nor_sold(self):
        book = book_of("wait: free ? ! take kept\n", "drop: ? ! free\n", states="states: kept\n")
        self.check(FIRST, "wait", "outsider", ("kept", "", "none", ()), book=book)
        self.check(("kept", "", "none", ()), "drop", "house", ("free", "", "none", ("kept",)), "taken", book=book)


class Effect(unittest.TestCase):
    """Point [19]."""

    def check(self, situation, name, role, *expected, book=OPEN):
        steps = [step for step in steps_at(book, situation) if step[:2] == (name, role)]
        self.assertTrue(steps, (situation, name, role))
        for step in steps:
            self.assertEqual(effect(book, situation, step), (*expected, *after(book, situation, step)), (situation, step))

    def test_the_clock(self):
        self.check(HELD, "", "clock", "others", "same", "same", "same")
        self.assertEqual(effect(OPEN, HELD, ("", "clock", "", "")),
                         ("others", "same", "same", "same", ("held", "over", "none", ()), ()))

    def test_letters(self):
        free = ("free", "", "none", ("held",))
        self.check(FIRST, "hold", "outsider", "others", "outsider", "rises", "set")
        self.check(free, "hold", "owner", "others", "owner", "rises", "set")
        self.check(free, "buy", "owner", "others", "owner", "rises", "same")
        self.check(free, "back", "owner", "others", "same", "same", "same")
        self.check(HELD, "hold", "owner", "holder", "same", "same", "set")
        self.check(HELD, "hold", "outsider", "others", "outsider", "rises", "set")
        self.check(HELD, "turn", "outsider", "others", "same", "same", "set")
        self.check(HELD, "close", "owner", "holder", "same", "same", "same")
        self.check(HELD, "leave", "owner", "holder", "none", "same", "same")
        self.check(HELD, "leave", "outsider", "others", "none", "same", "same")
        self.check(HELD, "longer", "owner", "holder", "same", "same", "set")
        self.check(HELD, "longer", "outsider", "others", "same", "same", "set")
        self.check(HELD, "fresh", "owner", "holder", "same", "rises", "same")
        self.check(HELD, "tip", "outsider", "others", "same", "same", "same")

    def test_steps_that_shut_the_seat(self):
        self.check(("sold", "", "good", ()), "pay", "owner", "holder", "same", "same", "same")
        self.check(("sold", "", "good", ()), "pay", "outsider", "others", "outsider", "rises", "same")

    def test_sweeps(self):
        book = book_of("drop: ? ! free\n", "longer: ? ! time\n", "renew: ? ! move held, new\n", "give: ? ! refund\n")
        self.check(HELD, "drop", "house", "others", "none", "same", "same", book=book)
        self.check(HELD, "longer", "house", "others", "same", "same", "set", book=book)
        self.check(HELD, "renew", "house", "others", "same", "rises", "set", book=book)
        self.check(FIRST, "give", "house", "others", "same", "same", "same", book=book)


class Errors(unittest.TestCase):
    """The errors of points [18] and [19], and their order."""

    BAD = [
        (), ("free",), ("free", "", "none"), ("free", "", "none", (), ()), ("free", "", "none", ("free",), ""),
        ("kept", "", "none", ()), ("", "", "none", ()), ("Free", "", "none", ()),
        ("free", "running", "none", ()), ("free", "over", "none", ()), ("sold", "running", "none", ()),
        ("held", "", "none", ()), ("held", "past", "none", ()), ("free", None, "none", ()),
        ("free", "", "good", ()), ("held", "running", "good", ()), ("free", "", "", ()), ("free", "", "shut", ()),
        ("sold", "", "bad", ()), ("", "", "shut", ("free",)), ("", "running", "shut", ()), ("held", "running", "shut", ()),
        ("free", "", "none", ("kept",)), ("free", "", "none", ("held", "free")), ("free", "", "none", ("held", "held")),
        ("free", "", "none", ("free", "sold", "held")), ("free", "", "none", ("",)), ("free", "", "none", ("my held",)),
        ("free", "", "none", ["held"]), ("free", "", "none", "free"),
        ("free", "", "none", ("held", "kept")), ("free", "", "none", ("", "held")), ("free", "", "none", ("free", "x")),
    ]
    UNREACHED = [
        ("sold", "", "good", ("free", "held", "sold")), ("sold", "", "none", ()), ("free", "", "astray", ("sold",)),
        ("held", "over", "astray", ("free",)), ("sold", "", "astray", ()), SHUT,
    ]

    def test_no_situation(self):
        for situation in self.BAD:
            for call in (lambda: list(steps_at(OPEN, situation)), lambda: list(steps_at(OPEN, situation, world="fresh")),
                         lambda: after(OPEN, situation, ("",)), lambda: effect(OPEN, situation, ("",))):
                with self.assertRaises(InvalidSituation, msg=situation):
                    call()

    def test_situations_that_no_run_reaches_are_let_pass(self):
        book = book_of(HOLD)
        for situation in self.UNREACHED:
            self.assertIsInstance(list(steps_at(book, situation)), list)
            for call in (after, effect):
                with self.assertRaises(NotDone):
                    call(book, situation, ("no",))

    def test_no_world(self):
        for world in ("", "Late", "early"):
            with self.assertRaises(BadWorld) as caught:
                list(steps_at(OPEN, FIRST, world=world))
            self.assertEqual(caught.exception.world, world)

    def test_not_done(self):
        book = book_of(HOLD, PAY, "lapse: ? over ! free\n")
        good = ("hold", "outsider", "still", "free")
        self.assertEqual(after(book, FIRST, good), (HELD, ()))
        for step in [(), ("",), good[:3], good + ("",), ("none", "outsider", "still", "free"), ("hold", "owner", "still", "free"),
                     ("hold", "house", "", ""), ("hold", "outsider", "same", "free"), ("hold", "outsider", "old", "my held"),
                     ("hold", "outsider", "still", ""), ("hold", "outsider", "", "free"), ("", "clock", "", ""),
                     ("lapse", "house", "", ""), ("pay", "outsider", "old", "my held"), ("", "", "", "")]:
            for call in (after, effect):
                with self.assertRaises(NotDone, msg=step):
                    call(book, FIRST, step)
        for step in [good, ("hold", "owner", "old", "free"), ("pay", "outsider", "still", "others held"),
                     ("pay", "owner", "same", "my held"), ("lapse", "house", "", ""), ("lapse", "outsider", "old", "free")]:
            for call in (after, effect):
                with self.assertRaises(NotDone, msg=step):
                    call(book, HELD, step)

    def test_the_clock_only_where_a_time_runs(self):
        for situation in [FIRST, ("held", "over", "none", ()), ("sold", "", "good", ()), SHUT]:
            for call in (after, effect):
                with self.assertRaises(NotDone):
                    call(OPEN, situation, ("", "clock", "", ""))

    def test_a_shut_situation_has_no_steps(self):
        for step in [("hold", "outsider", "old", "free"), ("back", "outsider", "still", "free")]:
            for call in (after, effect):
                with self.assertRaises(NotDone):
                    call(OPEN, SHUT, step)

    def test_after_and_effect_take_the_steps_of_the_late_world(self):
        step = ("pay", "owner", "old", "my held")
        book = book_of(PAY)
        self.assertNotIn(step, list(steps_at(book, HELD, world="fresh")))
        self.assertEqual(after(book, HELD, step), (("sold", "", "good", ("held",)), ()))

    def test_the_order(self):
        bad_book = (OPEN[0], (("a", (), (), "", ()),))
        for call in (lambda: list(steps_at(bad_book, (), world="no")), lambda: after(bad_book, (), ()), lambda: effect(bad_book, (), ())):
            with self.assertRaises(InvalidRow):
                call()
        with self.assertRaises(BadWorld):
            list(steps_at(OPEN, (), world="no"))
        for call in (after, effect):
            with self.assertRaises(InvalidSituation):
                call(OPEN, (), ())
            with self.assertRaises(NotDone):
                call(OPEN, FIRST, ())


if __name__ == "__main__":
    unittest.main()
