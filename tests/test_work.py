"""How much work an answer takes, in calls instead of seconds: a clock would tell of the machine, too."""

import sys
import timeit
import unittest

from onehold.books import check_book, read_book, show_book
from onehold.compared import buttons, difference, idle_looks, never_more, serial
from onehold.fairness import fair_sets
from onehold.houses import House
from onehold.mends import fewest_rows, gentle_looks, least_looks, needless_looks
from onehold.pages import fewest_pages, is_page_table, page_table, prompt_verdict
from onehold.situations import after, effect, steps_at
from onehold.tables import table
from onehold.verdicts import is_table, verdict

STATES = (("held", True, False), ("kept", True, False), ("sold", False, True), ("gone", False, True))
LOOKS = ("not sold", "not gone", "mine", "other", "same", "still", "running", "unpaid")
SHOWN = ("my held", "others held", "my kept", "free")
MARKS = ("new", "refund", "keep")
LARGE = (STATES, tuple([("row" + sign, SHOWN, LOOKS, "take kept", MARKS) for sign in "abcdefgh"]))
OPEN = (STATES, tuple([("row" + sign, SHOWN, LOOKS[:2], "take kept", MARKS) for sign in "abcdefgh"]))
SITUATION = ("held", "running", "none", ("held",))
DEEDS = ("take held", "take kept", "take sold", "move gone", "move kept", "time", "free", "move held")
WIDE = (STATES, tuple([("row" + sign, SHOWN, (), deed, (deed[:4] == "take") * ("keep",) or ("refund",))
                       for sign, deed in zip("abcdefgh", DEEDS)]))
# Two states and five rows whose runs reach nearly all that there is; few need an earlier view.
ALL_VIEWS = ("free", "my held", "my sold", "others held", "others sold")
SMALL = ((("held", True, False), ("sold", True, False)),
         (("hold", ALL_VIEWS, (), "take held", ()), ("a", ALL_VIEWS, (), "move sold", ()),
          ("b", ALL_VIEWS, ("unpaid",), "move held", ("keep",)), ("c", ALL_VIEWS, (), "move held", ("refund",)),
          ("d", ALL_VIEWS, (), "free", ())))
SAME = (SMALL[0], tuple([(name, shown, (*looks, "same"), deed, marks) for name, shown, looks, deed, marks in SMALL[1]]))
# Each of the rows lets "taken" in.
TAKEN = (SMALL[0], tuple([(name, ("free",), (), "take held", ()) for name in "abcde"]))
# Rows of many looks, few of which are needed against "twice".
LOOKED = (SMALL[0], (("hold", ("free",), ("at free", "not held", "not sold", "same", "still", "unpaid"), "take held", ()),
                     ("a", ("my held",), ("at held", "not sold", "not free", "mine", "same", "unpaid"), "move sold", ()),
                     ("b", ("my sold",), ("mine", "at sold", "not held", "not free", "unpaid"), "time", ("keep",)),
                     ("c", (), ("over",), "free", ("refund",))))


def calls_of(function):
    """How many functions, own and builtin ones, are called by it."""
    counts = [0]

    def seen(frame, event, thing):
        if event in ("call", "c_call"):
            counts[0] += 1

    sys.setprofile(seen)
    try:
        function()
    finally:
        sys.setprofile(None)
    return counts[0]


class Work(unittest.TestCase):
    """Bounds with a quarter or more to spare; a check that makes lists anew for each row breaks them."""

    def check(self, most, function):
        self.assertLessEqual(calls_of(function), most)

    def test_books(self):
        text = show_book(LARGE)
        self.check(165, lambda: check_book(LARGE))
        self.check(220, lambda: show_book(LARGE))
        self.check(280, lambda: read_book(text))

    def test_steps(self):
        self.check(400, lambda: list(steps_at(LARGE, SITUATION)))
        self.check(400, lambda: list(steps_at(LARGE, SITUATION, world="fresh")))
        self.check(600, lambda: list(steps_at(OPEN, SITUATION)))
        step = list(steps_at(OPEN, SITUATION))[-2]
        self.check(320, lambda: after(OPEN, SITUATION, step))
        self.check(320, lambda: effect(OPEN, SITUATION, step))

    def test_tables(self):
        """WIDE reaches many situations by few spots: each row is tried once for a spot, not for a situation."""
        rows = table(WIDE)
        self.assertGreater(len(rows), 150)
        self.check(7000, lambda: table(WIDE))
        self.check(10000, lambda: fair_sets(WIDE))
        self.check(2000, lambda: verdict(WIDE, "taken"))
        self.check(10000, lambda: is_table(WIDE, "taken", rows, 2))

    def test_pages(self):
        rows = page_table(SAME, 3)
        self.assertGreater(len(rows), 50)
        self.check(9100, lambda: page_table(SAME, 3))
        self.check(8100, lambda: is_page_table(SAME, "twice", 3, rows, None))
        self.check(8600, lambda: prompt_verdict(SAME, "unpaid", 3))
        self.check(5600, lambda: fewest_pages(SAME, "unpaid"))

    def test_mends(self):
        self.check(2700, lambda: gentle_looks(SAME))
        self.check(2500, lambda: least_looks(TAKEN, ("taken",)))
        self.check(2200, lambda: fewest_rows(TAKEN, ("taken",)))
        self.check(4900, lambda: needless_looks(LOOKED, ("unpaid", "taken")))
        self.check(5700, lambda: needless_looks(LOOKED, ("twice",)))

    def test_comparisons(self):
        self.check(8900, lambda: difference(SAME, SAME))
        self.check(8800, lambda: never_more(SAME, SAME))
        self.check(5400, lambda: serial(SAME))
        self.check(4300, lambda: idle_looks(LOOKED))
        self.check(8700, lambda: buttons(SAME))

    def test_houses(self):
        self.check(165, lambda: House(LARGE, seats=6))
        house = House(LARGE, seats=6)
        self.check(60, house.twin)

    def test_wrongs_do_not_look_through_the_story(self):
        """The only clock here: it compares a house with itself, so that a factor of ten tells nothing of the machine."""
        house = House(LARGE)
        house.tick()
        short = least_time(lambda: house.wrongs(0))
        for _ in range(2000):
            house.tick()
        self.assertLess(least_time(lambda: house.wrongs(0)), 10 * short)


def least_time(function):
    """The least time of some tries of the function."""
    return min(timeit.repeat(function, number=20, repeat=20))


if __name__ == "__main__":
    unittest.main()
