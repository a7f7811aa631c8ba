"""Points [24] and [25]: events along paths, roads with the same course, and two visitors."""

import unittest

from onehold.errors import BadEvent, BadWrong, InvalidRow, InvalidStates, NoLetter, NoPage, NoRow, NotDone, NotShown
from onehold.houses import House, play
from onehold.runs import course, events_of, fewest_visitors, to_answers, to_letters, to_pages, to_two
from onehold.situations import after
from onehold.verdicts import verdict
from tests.samples import HOLD, OPEN_ROWS, PAY, book_of

FIRST = ("free", "", "none", ())
CLOCK = ("", "clock", "", "")
TAKE = ("hold", "outsider", "still", "free")
BOOK = book_of(HOLD, PAY)
ROWS = ["leave: my held ? mine ! free\n", "again: free, others held ? ! take held\n", "lapse: ? over ! free\n",
        "tip: free, others held ? ! refund\n", "longer: my held ? same ! time\n", "fresh: my held ? still ! new\n"]
MORE = book_of(HOLD, PAY, *ROWS)
ROADS = (to_pages, to_letters, to_answers)


def letters_of(book, events):
    """(row, visitor, age, word, index) for each letter that is done, from the records of a house alone."""
    house = House(book)
    visitors, sent, found = [], [], []
    for index, event in enumerate(events):
        record = house.record(0)
        if event[0] == "open":
            visitors.append(event[1])
        elif event[0] in ("press", "refresh"):
            sent.append((event, visitors[event[1]], house.shown(event[1])[0]))
        done = play(house, [event])[0]
        if event[0] == "comes" and done and sent[event[1]][0][0] == "press":
            pressed, visitor, (word, number, turn) = sent[event[1]]
            age = "still" if turn == record[3] else "same" if number == record[2] else "old"
            found.append((pressed[2], visitor, age, word, index))
    return found


class Course(unittest.TestCase):

    def test_records_and_moments(self):
        events = [("open", 4), ("press", 0, "hold", (0,)), ("tick", 2), ("comes", 0, 3), ("hear", 0), ("tick", 1),
                  ("press", 0, "pay", (0,)), ("comes", 1, 1)]
        held = ("held", 4, 1, 1, 5, (), False)
        self.assertEqual(course(BOOK, events), [
            (2, ("free", None, 0, 0, None, (), False)), (2, held), (3, held), (3, ("sold", 4, 1, 2, None, (4,), False))])

    def test_what_changes_nothing(self):
        events = [("open", 4), ("refresh", 0), ("comes", 0, 1), ("hear", 0), ("press", 0, "hold", (0,)), ("lose", 1),
                  ("old", 0, ("my held",)), ("press", 0, "pay", (0,)), ("comes", 2, 1), ("close", 0)]
        self.assertEqual(course(BOOK, events), [])
        self.assertEqual(course(BOOK, []), [])
        self.assertEqual(course(MORE, [("sweep", "lapse", 0, 1)]), [])

    def test_a_step_that_leaves_state_and_who(self):
        events = [("open", 4), ("press", 0, "tip", (0,)), ("comes", 0, 1)]
        self.assertEqual(course(MORE, events), [(0, ("free", None, 0, 1, None, (), False))])

    def test_sweeps(self):
        events = [("open", 4), ("press", 0, "hold", (0,)), ("comes", 0, 1), ("sweep", "lapse", 0, 1), ("tick", 2),
                  ("sweep", "lapse", 0, 7)]
        self.assertEqual([(now, record[0]) for now, record in course(MORE, events)],
                         [(0, "held"), (2, "held"), (2, "free")])

    def test_lists_that_are_changed(self):
        events = [("open", 4), ("tick", 1)]
        course(BOOK, events).clear()
        self.assertEqual(events, [("open", 4), ("tick", 1)])
        self.assertEqual(len(course(book=BOOK, events=events)), 1)


class EventsOf(unittest.TestCase):

    def check(self, book, path):
        """The situations go along the path, and each letter that is done is that of its step."""
        events = events_of(book, path)
        house = House(book)
        situation, records, situations = FIRST, 0, [FIRST]
        for event in events:
            record = house.record(0)
            play(house, [event])
            records += record != house.record(0)
            if house.situation(0) != situations[-1] or house.record(0) != record:
                situations.append(house.situation(0))
        self.assertEqual(records, len([step for step in path if step != CLOCK]))
        expected = [FIRST]
        for step in path:
            situation = after(book, situation, step)[0]
            expected.append(situation)
        self.assertEqual(situations, expected)
        letters = [step for step in path if step[1] in ("owner", "outsider")]
        told = letters_of(book, events)
        self.assertEqual([(name, age, word) for name, _, age, word, _ in told], [(step[0], *step[2:]) for step in letters])
        self.check_roles(book, events, told, letters)
        self.assertEqual([event[1] for event in events if event[0] == "sweep"], [step[0] for step in path if step[1] == "house"])
        for event in events:
            if event[0] == "open":
                self.assertIn(event[1], range(100))
        return events

    def check_roles(self, book, events, told, letters):
        """At each number, its owner is the visitor who became who there."""
        house, owner, ahead = House(book), None, 0
        for (_, visitor, _, _, index), step in zip(told, letters):
            for event in events[ahead:index]:
                play(house, [event])
                owner = owner if house.record(0)[1] is None else house.record(0)[1]
            ahead = index
            self.assertEqual("owner" if visitor == owner else "outsider", step[1])

    def test_no_steps(self):
        self.assertEqual(play(House(BOOK), events_of(BOOK, [])), [])
        self.assertEqual(course(BOOK, events_of(BOOK, [])), [])

    def test_every_age(self):
        for last in ("still", "same", "old"):
            book = book_of(HOLD, "pay: my held, my sold ? ! take sold, keep\n")
            word = "my sold" if last == "still" else "my held"
            self.check(book, [TAKE, ("pay", "owner", "old", "my sold"), ("pay", "owner", last, word)])
        self.check(BOOK, [("hold", "outsider", "old", "free")])

    def test_the_clock(self):
        longer = ("longer", "owner", "still", "my held")
        self.check(MORE, [TAKE, CLOCK, longer, CLOCK, longer, longer, CLOCK])

    def test_sweeps(self):
        self.check(MORE, [TAKE, CLOCK, ("lapse", "house", "", ""), ("again", "outsider", "old", "others held")])

    def test_the_owner_and_outsiders(self):
        self.check(MORE, [
            TAKE, ("tip", "outsider", "still", "others held"), ("again", "outsider", "same", "others held"),
            ("leave", "owner", "still", "my held"), ("tip", "outsider", "same", "others held"),
            ("again", "owner", "still", "free"), ("tip", "outsider", "old", "free"), ("longer", "owner", "same", "my held"),
            ("again", "outsider", "still", "others held"), ("longer", "owner", "still", "my held"),
            ("longer", "owner", "same", "my held")])

    def test_a_new_number_of_the_same_owner(self):
        fresh = ("fresh", "owner", "still", "my held")
        self.check(MORE, [TAKE, fresh, ("longer", "owner", "still", "my held"), ("longer", "owner", "same", "my held"), fresh])
        with self.assertRaises(NotDone):
            events_of(MORE, [TAKE, fresh, ("longer", "owner", "same", "my held")])

    def test_money(self):
        book = book_of(OPEN_ROWS)
        for wrong in ("twice", "astray", "unpaid", "taken"):
            path = verdict(book, wrong).path
            house = House(book)
            play(house, self.check(book, path))
            self.assertIn(wrong, [found for _, found in house.wrongs(0)])
        self.check(book, [("pay", "outsider", "still", "free"), ("buy", "outsider", "still", "others sold"),
                          ("close", "outsider", "still", "others sold"), ("close", "owner", "same", "my sold"),
                          ("back", "owner", "old", "others held"),
                          ("tip", "owner", "still", "my sold"), ("tip", "outsider", "still", "others sold")])

    def test_thirty_steps(self):
        self.check(MORE, [TAKE] + [("longer", "owner", "still", "my held"), CLOCK] * 7
                   + [("longer", "owner", "same", "my held"), ("again", "outsider", "old", "free")] + [CLOCK]
                   + [("longer", "owner", "still", "my held")] * 12)

    def test_errors(self):
        for path, more in [([("hold", "owner", "still", "free")], []), ([()], []), ([CLOCK], []), ([("pay",)], [TAKE]),
                           ([TAKE], [TAKE]), ([TAKE + ("",)], [])]:
            with self.assertRaises(NotDone):
                events_of(BOOK, more + path)
            with self.assertRaises(NotDone):
                events_of(BOOK, more + path + [TAKE])
        with self.assertRaises(InvalidStates):
            events_of(((), ()), [CLOCK])

    def test_what_is_passed_in_stays_as_it_was(self):
        path = [TAKE, CLOCK]
        events_of(book=BOOK, path=path).clear()
        self.assertEqual(path, [TAKE, CLOCK])
        self.assertNotEqual(events_of(BOOK, path), [])


class Roads(unittest.TestCase):

    def check(self, book, events):
        """All three have the same course, each in its form; they can be turned into each other."""
        expected = course(book, events)
        for road in ROADS:
            found = road(book, events)
            self.assertEqual(course(book, found), expected, road)
            self.check_form(road, found)
            senders = [(name, visitor) for name, visitor, _, _, _ in letters_of(book, found)]
            self.assertEqual(senders, [(name, visitor) for name, visitor, _, _, _ in letters_of(book, events)])
            for other in ROADS:
                self.assertEqual(course(book, other(book, found)), expected)

    def check_form(self, road, events):
        sent = 0
        for index, event in enumerate(events):
            if event[0] in ("press", "refresh"):
                if road != to_letters:
                    self.assertEqual(events[index + 1][:2], ("comes", sent))
                if road == to_pages:
                    self.assertEqual(events[index + 2], ("hear", sent))
                sent += 1
            if event[0] == "comes" and road != to_answers:
                self.assertEqual(events[index + 1], ("hear", event[1]))
        visitors = [event[1] for event in events if event[0] == "open"]
        if road != to_pages:
            self.assertEqual(len(set(visitors)), len(visitors))

    def test_no_events(self):
        for road in ROADS:
            self.assertEqual(course(BOOK, road(BOOK, [])), [])

    def test_ticks_and_refused_letters(self):
        events = [("open", 3), ("press", 0, "hold", (0,)), ("press", 0, "hold", (0,)), ("comes", 1, 2), ("tick", 4),
                  ("comes", 0, 1), ("tick", 1), ("press", 0, "hold", (0,)), ("lose", 2), ("open", 5), ("refresh", 1)]
        self.check(BOOK, events)

    def test_letters_that_overtake_each_other(self):
        events = [("open", 3), ("open", 5), ("press", 0, "again", (0,)), ("press", 1, "again", (0,)), ("press", 1, "tip", (0,)),
                  ("comes", 1, 2), ("comes", 2, 1), ("comes", 0, 3), ("hear", 1), ("press", 1, "longer", (0,)), ("comes", 3, 9)]
        self.check(MORE, events)

    def test_answers_that_overtake_each_other(self):
        """Behind the later answer the earlier one is heard: the page shows "my held" of the past."""
        events = [("open", 3), ("press", 0, "hold", (0,)), ("comes", 0, 2), ("refresh", 0), ("comes", 1, 1), ("hear", 0),
                  ("press", 0, "leave", (0,)), ("comes", 2, 1), ("hear", 2), ("press", 0, "again", (0,)), ("comes", 3, 2),
                  ("hear", 1), ("press", 0, "longer", (0,)), ("tick", 2), ("comes", 4, 5)]
        self.check(MORE, events)

    def test_one_visitor_with_many_pages(self):
        events = [("open", 3)] * 4 + [("press", 0, "hold", (0,)), ("comes", 0, 1), ("open", 3), ("open", 3),
                                      ("press", 4, "pay", (0,)), ("press", 5, "pay", (0,)), ("comes", 1, 1), ("comes", 2, 1)]
        self.check(BOOK, events)
        house = House(BOOK)
        play(house, to_answers(BOOK, events))
        self.assertEqual(house.wrongs(0)[-1][1], "twice")

    def test_old_answers(self):
        events = [("open", 4), ("open", 5), ("old", 0, ("my held",)), ("old", 1, ("my held",)), ("press", 0, "pay", (0,)),
                  ("press", 1, "pay", (0,)), ("old", 0, ("free",)), ("press", 0, "hold", (0,)), ("comes", 2, 8), ("tick", 3),
                  ("comes", 1, 1), ("comes", 0, 1)]
        self.check(BOOK, events)

    def test_a_closed_page(self):
        events = [("open", 4), ("press", 0, "hold", (0,)), ("close", 0), ("comes", 0, 8), ("open", 4), ("press", 1, "pay", (0,)),
                  ("close", 1), ("comes", 1, 1)]
        self.check(BOOK, events)

    def test_a_view_of_an_earlier_number(self):
        events = [("open", 4), ("open", 5), ("press", 0, "again", (0,)), ("comes", 0, 1), ("hear", 0), ("press", 0, "leave", (0,)),
                  ("press", 1, "again", (0,)), ("comes", 2, 1), ("press", 0, "leave", (0,)), ("comes", 1, 1),
                  ("press", 1, "again", (0,)), ("comes", 4, 1), ("comes", 3, 1), ("press", 1, "tip", (0,)), ("comes", 5, 1)]
        self.check(MORE, events)

    def test_sweeps_and_lengths(self):
        events = [("open", 4), ("press", 0, "hold", (0,)), ("comes", 0, 8), ("hear", 0), ("sweep", "lapse", 0, 1), ("tick", 9),
                  ("press", 0, "longer", (0,)), ("sweep", "lapse", 0, 5), ("press", 0, "longer", (0,)), ("comes", 1, 1),
                  ("tick", 1), ("tick", 2)]
        self.check(MORE, events)

    def test_errors_of_play(self):
        good = [("open", 4), ("press", 0, "hold", (0,))]
        for event, kind, fields in [
                (("close", 7), NoPage, {"page": 7}), (("comes", 3, 1), NoLetter, {"letter": 3}),
                (("press", 0, "lapse", (0,)), NoRow, {"name": "lapse"}), (("press", 0, "pay", (0,)), NotShown, {"seat": 0}),
                (("send", 0), BadEvent, {"index": 2}), ((), BadEvent, {"index": 2})]:
            for function in (course, to_two, *ROADS):
                with self.assertRaises(kind) as caught:
                    function(BOOK, good + [event, ("tick", 0)])
                self.assertEqual(vars(caught.exception), fields)
        for function in (course, to_two, *ROADS):
            with self.assertRaises(InvalidRow) as caught:
                function((BOOK[0], (("Hold", (), (), "free", ()),)), [()])
            self.assertEqual(vars(caught.exception), {"index": 0, "part": "name"})

    def test_lists_that_are_changed(self):
        events = [("open", 4), ("press", 0, "hold", (0,)), ("comes", 0, 8)]
        for road in ROADS + (to_two,):
            found = road(BOOK, events)
            copy = list(found)
            found.clear()
            self.assertEqual(road(book=BOOK, events=events), copy)
        self.assertEqual(events, [("open", 4), ("press", 0, "hold", (0,)), ("comes", 0, 8)])


class TwoVisitors(unittest.TestCase):
    """Point [25]."""

    def check(self, book, events):
        found = to_two(book, events)
        self.assertLessEqual({event[1] for event in found if event[0] == "open"}, {0, 1})
        unnamed = [
            [(now, (state, who is None, number, turn, until, len(kept), astray))
             for now, (state, who, number, turn, until, kept, astray) in course(book, each)]
            for each in (events, found)]
        self.assertEqual(*unnamed)
        self.assertEqual(self.roles(book, found), self.roles(book, events))

    def roles(self, book, events):
        """(row, whether the owner of the number sent it) for each letter that is done."""
        found, house, owner, ahead = [], House(book), None, 0
        for name, visitor, _, _, index in letters_of(book, events):
            for event in events[ahead:index]:
                play(house, [event])
                owner = owner if house.record(0)[1] is None else house.record(0)[1]
            ahead = index
            found.append((name, visitor == owner))
        return found

    def test_many_visitors(self):
        events = []
        for number, visitor in enumerate([10, 99, 30, 10, 40]):
            events += [("open", visitor), ("open", 77), ("press", 2 * number, "again", (0,)), ("comes", 2 * number, 3),
                       ("press", 2 * number + 1, "tip", (0,)), ("comes", 2 * number + 1, 1)]
        self.check(MORE, events)

    def test_an_owner_that_comes_back(self):
        """The third page's view of number 1 says "my held" to somebody who is an outsider of number 2."""
        events = [("open", 5), ("open", 6), ("press", 0, "again", (0,)), ("comes", 0, 1), ("open", 5), ("open", 5),
                  ("press", 1, "again", (0,)), ("comes", 1, 1), ("press", 2, "leave", (0,)), ("comes", 2, 1),
                  ("open", 6), ("press", 4, "leave", (0,)), ("comes", 3, 1), ("press", 3, "pay", (0,)), ("comes", 4, 1),
                  ("press", 0, "again", (0,)), ("comes", 5, 1)]
        self.check(MORE, events)

    def test_pages_that_lag_at_a_number(self):
        """"same" lets a page of the owner, and one of an outsider, act by what it saw earlier at the same number."""
        book = book_of(HOLD, "longer: my held ? same ! time\n", "stir: others held ? same ! refund\n")
        events = [("open", 5), ("press", 0, "hold", (0,)), ("comes", 0, 1), ("hear", 0), ("open", 6)]
        for letter in range(1, 7):
            events += [("press", letter % 2, ("longer", "stir")[letter % 2], (0,)), ("comes", letter, 2)]
        self.assertEqual(len(course(book, events)), 7)
        self.check(book, events)

    def test_payments(self):
        book = book_of(OPEN_ROWS)
        events = [("open", 7), ("open", 8), ("open", 9), ("press", 0, "pay", (0,)), ("comes", 0, 1), ("press", 1, "buy", (0,)),
                  ("comes", 1, 1), ("press", 2, "back", (0,)), ("comes", 2, 1), ("press", 1, "tip", (0,)), ("comes", 3, 1),
                  ("press", 0, "tip", (0,)), ("comes", 4, 1), ("press", 0, "tip", (0,)), ("comes", 5, 1)]
        self.check(book, events)
        self.assertEqual(len(course(book, to_two(book, events))[-1][1][5]), 2)

    def test_nothing_done(self):
        self.assertEqual(course(BOOK, to_two(BOOK, [])), [])
        self.check(BOOK, [("open", 5), ("press", 0, "hold", (0,)), ("tick", 2)])

    def check_fewest(self, expected, wrong, *rows):
        found = fewest_visitors(book_of(*rows), wrong)
        self.assertEqual(found, expected)

    def test_fewest_visitors(self):
        self.check_fewest(1, "twice", HOLD, PAY)
        self.check_fewest(None, "taken", HOLD, PAY)
        self.check_fewest(2, "taken", HOLD, "grab: free ? ! take held\n")
        self.check_fewest(1, "taken", HOLD, "clear: ? ! free\n")
        self.check_fewest(1, "unpaid", "buy: free ? ! take sold\n")
        self.check_fewest(2, "unpaid", HOLD, "buy: others held ? other ! take sold\n")
        self.check_fewest(1, "astray", "tip: free ? ! keep\n")
        self.check_fewest(2, "astray", "pay: free ? at free ! take sold, keep\n", "buy: others sold ? still ! take sold\n")
        self.check_fewest(None, "astray", HOLD)

    def test_one_visitor_is_the_owner_wherever_there_is_one(self):
        """Behind a hold that was left, only the owner is there: its page shows "free", and never "others held"."""
        self.check_fewest(2, "unpaid", HOLD, "leave: my held ? ! free\n", "buy: others held ? at free, same ! take sold\n")
        self.check_fewest(1, "unpaid", HOLD, "leave: my held ? ! free\n", "buy: others held ? at free ! take sold\n")
        self.check_fewest(1, "unpaid", HOLD, "leave: my held ? ! free\n", "buy: my held ? at free, same ! take sold\n")

    def test_fewest_visitors_errors(self):
        for wrong in ("nobody", "never", ""):
            with self.assertRaises(BadWrong) as caught:
                fewest_visitors(BOOK, wrong)
            self.assertEqual(caught.exception.index, 0)
            with self.assertRaises(InvalidStates):
                fewest_visitors(((), ()), wrong)
        self.assertEqual(fewest_visitors(book=BOOK, wrong="twice"), 1)


if __name__ == "__main__":
    unittest.main()
