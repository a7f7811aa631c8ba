"""Points [26] and [27]: prompt runs with so many pages, and page tables."""

import unittest

from onehold.errors import BadPages, BadWrong, InvalidRow, InvalidSituation, InvalidStates
from onehold.houses import House, play
from onehold.pages import fewest_pages, is_page_table, page_table, prompt_verdict
from onehold.verdicts import verdict
from tests.samples import HOLD, PAY, book_of
from tests.test_verdicts import BAD_BOOK, NO_STATES

FIRST = ("free", "", "none", ())
RUNNING = ("held", "running", "none", ())
OVER = ("held", "over", "none", ())
PAID = ("sold", "", "good", ("held",))
SHUT = ("", "", "shut", ())
SAME_PAY = "pay: my held ? same ! take sold, keep\n"
TWO = book_of(HOLD, SAME_PAY)
ONE = book_of(HOLD, PAY)
PLAIN = "states: held, sold\n"
MOVE = "a: my held ? still ! move sold\n"
# Each payment needs a page that still shows "my held"; the row a is sent from one more.
THREE = book_of(HOLD, MOVE, "b: my held ? same, at sold ! keep\n", states=PLAIN)
FOUR = book_of("hold: free ? at free, unpaid ! take held\n", MOVE, "b: my held ? same, at sold, unpaid ! keep\n", "c: my held ? same, at sold, paid ! free\n",
               "d: my held ? same, at free ! keep\n", states=PLAIN)
WRONGS = ("twice", "astray", "unpaid", "taken")


def fault_of(book, wrong, pages, told):
    """What is wrong with the events of a verdict, None if they show what the point promises."""
    house = House(book)
    play(house, told.events)
    visitors, opened = [], {}
    for index, event in enumerate(told.events):
        if event[0] == "open":
            visitors.append(event[1])
            opened[len(visitors) - 1] = event[1]
        elif event[0] == "close":
            del opened[event[1]]
        elif event[0] in ("press", "refresh"):
            behind = told.events[index + 1:index + 3]
            if [step[:2] for step in behind] != [("comes", behind[0][1]), ("hear", behind[0][1])]:
                return "late"
        if max(list(opened.values()).count(visitor) for visitor in [None, *opened.values()]) > pages:
            return "pages"
    if not all(isinstance(visitor, int) and 0 <= visitor <= 99 for visitor in visitors):
        return "visitors"
    last = max(index for index, event in enumerate(told.events) if event[0] in ("comes", "sweep"))
    if (last, wrong) not in house.wrongs(0):
        return "wrong"
    return None if house.record(0)[3] == told.steps else "steps"


class Prompt(unittest.TestCase):
    """Point [26]."""

    def check(self, book, wrong, pages, steps):
        """The verdict has so many steps, None if it is safe, and its events show it."""
        told = prompt_verdict(book, wrong, pages)
        self.assertIs(told.safe, steps is None)
        self.assertEqual((told.steps, told.path, told.members), (steps, None, None))
        if steps is None:
            self.assertIsNone(told.events)
        else:
            self.assertIsInstance(told.events, list)
            self.assertIsNone(fault_of(book, wrong, pages, told))

    def test_pages_that_still_show_it(self):
        for pages, steps in ((1, None), (2, 3), (3, 3)):
            self.check(TWO, "twice", pages, steps)
        for pages, steps in ((1, None), (2, None), (3, 4)):
            self.check(THREE, "twice", pages, steps)
        for pages in (1, 2, 3):
            self.check(FOUR, "twice", pages, None)
        self.assertEqual(verdict(FOUR, "twice").steps, 5)

    def test_an_old_answer_needs_one_page(self):
        for pages in (1, 2, 3):
            self.check(ONE, "twice", pages, 3)
            self.check(ONE, "astray", pages, None)
            self.check(ONE, "taken", pages, None)
            self.check(ONE, "unpaid", pages, None)

    def test_with_sweeps(self):
        book = book_of(HOLD, "lapse: ? ! move sold\n", SAME_PAY)
        self.check(book, "unpaid", 1, 2)
        # The owner sends nothing while the house moves: one page is enough to keep the view.
        book = book_of(HOLD, "up: ? at held ! move sold\n", "pay: my held ? same, at sold, unpaid ! keep\n", states=PLAIN)
        self.check(book, "astray", 1, 3)
        book = book_of(HOLD, "up: ? at held ! move sold\n", "pay: my held ? same, at sold ! keep\n", states=PLAIN)
        self.check(book, "twice", 1, None)
        self.check(book, "twice", 2, 4)

    def test_outsiders_are_many(self):
        """Each stranger needs one page alone that still shows "others held"."""
        book = book_of(HOLD, MOVE, "b: others held ? same, at sold ! keep\n", states=PLAIN)
        self.check(book, "twice", 1, 4)
        book = book_of(HOLD, MOVE, "b: others held ? same, at sold, unpaid ! keep\n",
                       "c: others held ? same, at sold, paid ! free\n", "d: others held ? same, at free ! keep\n",
                       states=PLAIN)
        self.check(book, "twice", 1, 5)
        self.assertEqual(fewest_pages(book, "twice"), 1)

    def test_the_page_that_is_needed(self):
        """At the last step pages may still show "my held" as well, but only one that shows "my sold" is of use."""
        book = book_of("hold: free ? at free, unpaid ! take held\n", MOVE, "b: my held ? same, at sold, unpaid ! keep\n",
                       "f: my sold ? still, paid ! free\n", "d: my sold ? same, at free ! keep\n", states=PLAIN)
        for pages, steps in ((1, None), (2, 5), (3, 5)):
            self.check(book, "twice", pages, steps)

    def test_a_number_that_rises(self):
        """What was kept is worth nothing behind "new"."""
        book = book_of(HOLD, "a: my held ? still ! move sold, new\n", "b: my held ? same, at sold ! keep\n", states=PLAIN)
        for pages in (1, 2, 3):
            self.check(book, "astray", pages, None)
        self.assertIsNone(fewest_pages(book, "astray"))

    def test_the_clock_does_not_count(self):
        book = book_of(HOLD, "pay: my held ? same, over ! move sold, keep\n")
        for pages, steps in ((1, None), (2, 3)):
            self.check(book, "twice", pages, None)
            self.check(book_of(HOLD, "pay: my held ? same, over ! keep\n"), "twice", pages, 3)
        self.check(book, "taken", 1, None)

    def test_the_first_step(self):
        self.check(book_of("pay: free ? ! take sold\n"), "unpaid", 1, 1)
        self.check(book_of("pay: free ? at free ! keep\n"), "astray", 1, 1)
        self.check(book_of(), "astray", 1, None)

    def test_fewest_pages(self):
        book = book_of(HOLD, "lapse: ? ! move sold\n")
        told = [fewest_pages(each, "twice") for each in (ONE, TWO, THREE, FOUR, book)]
        self.assertEqual(told, [1, 2, 3, 4, None])
        self.assertEqual(fewest_pages(book, "unpaid"), 0)
        self.assertEqual(fewest_pages(book_of("pay: free ? at free ! keep\n"), "astray"), 0)
        self.assertIsNone(fewest_pages(book_of(), "astray"))

    def test_only_same_makes_more_pages_matter(self):
        """A row with "same" and "still" needs no page that lags."""
        book = book_of(HOLD, "pay: my held ? same, still ! keep\n")
        self.assertEqual([fewest_pages(book, wrong) for wrong in WRONGS], [0, 0, None, None])
        book = book_of(HOLD, "pay: my held ? same, still ! take sold, keep\n")
        self.assertEqual([fewest_pages(book, wrong) for wrong in WRONGS], [None, None, None, None])

    def test_events_are_new(self):
        told = prompt_verdict(ONE, "twice", 1)
        events = list(told.events)
        told.events.clear()
        self.assertEqual(prompt_verdict(ONE, "twice", 1).events, events)


class Tables(unittest.TestCase):
    """Point [27]."""

    def check(self, *rows, book=TWO, wrong="twice", pages=2, steps=3):
        return is_page_table(book, wrong, pages, list(rows), steps)

    def rows(self):
        return [(FIRST, (), 0), (RUNNING, (), 1), (OVER, (), 1), (PAID, ("held",), 2), (SHUT, (), 3)]

    def test_a_table(self):
        self.assertEqual(sorted(page_table(TWO, 2)), sorted(self.rows()))
        self.assertIs(self.check(*self.rows()), True)
        self.assertIs(self.check(*self.rows()[::-1]), True)
        self.assertIs(self.check(*self.rows(), steps=2), True)
        self.assertIs(self.check(*self.rows(), steps=4), False)
        self.assertIs(self.check(*self.rows(), steps=None), False)
        self.assertEqual(sorted(page_table(TWO, 3)),
                         sorted([*self.rows()[:3], (PAID, ("held", "held"), 2), (SHUT, (), 3)]))
        self.assertEqual(sorted(page_table(TWO, 1)), sorted([*self.rows()[:3], (PAID, (), 2)]))
        self.assertIs(self.check(*page_table(TWO, 1), pages=1, steps=None), True)

    def test_a_row_that_is_left_out(self):
        for at in range(5):
            rows = self.rows()
            del rows[at]
            self.assertIs(self.check(*rows), False)
        self.assertIs(self.check(), False)

    def test_a_row_that_is_there_twice(self):
        for row in self.rows():
            self.assertIs(self.check(*self.rows(), row), True)
        self.assertIs(self.check(*self.rows(), (FIRST, (), 1)), True)
        # Behind it the seat is paid with the number 0 + 2 at most, but RUNNING has it at 1.
        self.assertIs(self.check(*self.rows(), (RUNNING, (), 0)), False)
        self.assertIs(self.check(*self.rows(), (RUNNING, (), 0), (OVER, (), 0)), False)
        self.assertIs(self.check(*self.rows(), (RUNNING, (), 0), (OVER, (), 0), (PAID, ("held",), 1), (SHUT, (), 2)), False)
        self.assertIs(self.check(*self.rows(), (RUNNING, (), 0), (OVER, (), 0), (PAID, ("held",), 1), (SHUT, (), 2),
                                 steps=2), True)

    def test_numbers(self):
        rows = self.rows()
        self.assertIs(self.check((FIRST, (), 1), *rows[1:]), False)
        self.assertIs(self.check((FIRST, (), -1), *rows[1:]), False)
        self.assertIs(self.check(rows[0], (RUNNING, (), 2), *rows[2:]), False)
        self.assertIs(self.check(*rows[:2], (OVER, (), 2), *rows[3:]), False)
        self.assertIs(self.check(*rows[:2], (OVER, (), 0), *rows[3:]), False)
        self.assertIs(self.check(*rows[:2], (OVER, (), 0), (PAID, ("held",), 1), (SHUT, (), 2), steps=2), True)
        self.assertIs(self.check(*rows[:2], (OVER, (), 0), (PAID, ("held",), 1), (SHUT, (), 2)), False)
        self.assertIs(self.check(*rows[:3], (PAID, ("held",), 3), rows[4]), False)
        self.assertIs(self.check(*rows[:3], (PAID, ("held",), 1), rows[4]), False)
        self.assertIs(self.check(*rows[:4], (SHUT, (), 4)), False)
        self.assertIs(self.check(*rows[:4], (SHUT, (), -5)), True)

    def test_kept_tuples(self):
        rows = self.rows()
        self.assertIs(self.check((FIRST, ("held",), 0), *rows[1:]), False)
        self.assertIs(self.check(*rows[:3], (PAID, (), 2), rows[4]), False)
        # More is kept than can be: then more has to be there, which it is.
        self.assertIs(self.check(*rows[:3], (PAID, ("held", "held"), 2), rows[4]), True)
        self.assertIs(self.check(*rows[:4], (SHUT, ("held",), 3)), True)
        self.assertIs(self.check(rows[0], (RUNNING, ("held",), 1), *rows[2:]), False)
        self.assertIs(self.check(rows[0], (RUNNING, ("held",), 1), (OVER, ("held",), 1), *rows[3:]), True)

    def test_a_tuple_for_each_choice(self):
        """One page can keep either word, or with two pages both: no tuple has more words than that."""
        book = book_of(HOLD, "up: ? at held ! move sold\n", "down: ? at sold ! move held\n",
                       "pay: my held, my sold ? same ! keep\n", states=PLAIN)
        one = [("held",), ("sold",)]
        for pages, kept in ((1, one), (2, [("held", "held"), ("held", "sold"), ("sold", "sold")])):
            rows = page_table(book, pages)
            here = [words for situation, words, _ in rows if situation == ("held", "", "none", ("held", "sold"))]
            self.assertEqual(sorted(here), kept)
            self.assertTrue(all(len(words) <= pages for _, words, _ in rows))
            for wrong in WRONGS:
                steps = prompt_verdict(book, wrong, pages).steps
                self.assertIs(is_page_table(book, wrong, pages, rows, steps), True)
                for at, (situation, words, number) in enumerate(rows):
                    if words and number < 4:
                        fewer = rows[:at] + [(situation, words[1:], number)] + rows[at + 1:]
                        covered = [row for row in rows[:at] + rows[at + 1:]
                                   if row[0] == situation and row[2] <= number
                                   and all(row[1].count(word) >= words.count(word) for word in words)]
                        self.assertEqual(is_page_table(book, wrong, pages, fewer, steps), covered != [])

    def test_words_that_are_no_kept_words(self):
        """A row without "same", or with "still", keeps nothing."""
        for row in ("pay: my held ? mine ! take sold, keep\n", "pay: my held ? same, still ! take sold, keep\n",
                    "pay: others held ? same ! take sold, keep\n"):
            for pages in (1, 2, 3):
                self.assertEqual({kept for _, kept, _ in page_table(book_of(HOLD, row), pages)}, {()})

    def test_free_is_a_kept_word(self):
        book = book_of(HOLD, "leave: my held ? at held ! free\n", "pay: free ? same, at held ! keep\n")
        rows = page_table(book, 2)
        self.assertEqual({kept for _, kept, _ in rows}, {()})
        book = book_of("hold: free ? at free ! take held\n", "leave: my held ? at held ! free\n",
                       "tip: others held, free ? at free ! keep\n", "pay: free ? same, at held ! keep\n")
        rows = page_table(book, 2)
        self.assertIn(("free", "", "astray", ("free", "held")), [situation for situation, _, _ in rows])
        self.assertIn(("free", "free"), [kept for _, kept, _ in rows])
        for wrong in WRONGS:
            self.assertIs(is_page_table(book, wrong, 2, rows, prompt_verdict(book, wrong, 2).steps), True)

    def test_no_word_more_than_three_times(self):
        for book in (TWO, THREE, FOUR):
            for pages in (1, 2, 3):
                rows = page_table(book, pages)
                self.assertTrue(all(kept.count(word) <= 3 for _, kept, _ in rows for word in kept))
                self.assertTrue(all(kept == tuple(sorted(kept)) for _, kept, _ in rows))
                for wrong in WRONGS:
                    self.assertIs(is_page_table(book, wrong, pages, rows, prompt_verdict(book, wrong, pages).steps), True)

    def test_more_pages_do_not_fit(self):
        self.assertIs(self.check(*page_table(TWO, 1), pages=2, steps=None), False)
        self.assertIs(self.check(*page_table(TWO, 3), pages=2), True)

    def test_lists_are_new_and_are_left_as_they_are(self):
        rows = page_table(TWO, 2)
        kept = list(rows)
        rows.clear()
        self.assertEqual(page_table(TWO, 2), kept)
        self.assertIs(is_page_table(TWO, "twice", 2, rows, 3), False)
        rows = self.rows()
        self.assertIs(is_page_table(TWO, "twice", 2, rows, 3), True)
        self.assertEqual(rows, self.rows())


class Errors(unittest.TestCase):
    """Points [3], [26] and [27]."""

    def check(self, kind, fields, function, *args):
        with self.assertRaises(kind) as caught:
            function(*args)
        self.assertIs(caught.exception.__class__, kind)
        self.assertEqual(vars(caught.exception), fields)

    def test_books_come_first(self):
        for book, kind, fields in ((NO_STATES, InvalidStates, {"index": 0}),
                                   (BAD_BOOK, InvalidRow, {"index": 0, "part": "marks"})):
            self.check(kind, fields, prompt_verdict, book, "never", 7)
            self.check(kind, fields, fewest_pages, book, "never")
            self.check(kind, fields, page_table, book, 7)
            self.check(kind, fields, is_page_table, book, "never", 7, [(("x",), (), 0)], None)

    def test_then_wrongs(self):
        for wrong in ("never", "nobody", ""):
            self.check(BadWrong, {"index": 0}, prompt_verdict, ONE, wrong, 7)
            self.check(BadWrong, {"index": 0}, fewest_pages, ONE, wrong)
            self.check(BadWrong, {"index": 0}, is_page_table, ONE, wrong, 7, [(("x",), (), 0)], None)

    def test_then_pages(self):
        for pages in (-1, 0, 4, 100):
            self.check(BadPages, {"pages": pages}, prompt_verdict, ONE, "twice", pages)
            self.check(BadPages, {"pages": pages}, page_table, ONE, pages)
            self.check(BadPages, {"pages": pages}, is_page_table, ONE, "twice", pages, [(("x",), (), 0)], None)

    def test_then_situations(self):
        for bad in (("x", "", "none", ()), ("held", "", "none", ()), ("free", "", "none", ("x",)), ("free", "", "none")):
            for rows in ([(bad, (), 0)], [(FIRST, (), 5), (bad, (), 0)], page_table(ONE, 1) + [(bad, (), 9)]):
                self.check(InvalidSituation, {}, is_page_table, ONE, "twice", 1, rows, 3)


if __name__ == "__main__":
    unittest.main()
