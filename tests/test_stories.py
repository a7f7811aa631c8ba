"""Points [15] and [16]: events, undo, twins, play, what_if and guarded houses."""

import unittest

from onehold.errors import (
    BadBasket, BadEvent, BadLength, HoldError, NoLetter, NoRow, NotShown, NothingToUndo, WrongAhead,
)
from onehold.houses import GuardedHouse, House, play, what_if
from tests.samples import ALL, HOLD, OPEN_ROWS, PAY, book_of, house_of, open_house, told

LAPSE = "lapse: ? over ! free\n"
EVERY_EVENT = [
    ("open", 5), ("press", 0, "hold", (0, 1)), ("comes", 0, 4), ("hear", 0), ("tick", 5), ("refresh", 0),
    ("lose", 1), ("sweep", "lapse", 1, 1), ("old", 0, ("my held", "free")), ("press", 0, "pay", (0,)),
    ("comes", 2, 2), ("close", 0),
]
EVERY_ANSWER = [0, 0, True, None, None, 1, None, True, None, 2, True, None]


def every_house(made=House):
    return made(book_of(HOLD, PAY, LAPSE), seats=2)


class Play(unittest.TestCase):

    def test_every_event(self):
        house = every_house()
        self.assertEqual(play(house, EVERY_EVENT), EVERY_ANSWER)
        self.assertEqual(house.story(), EVERY_EVENT)
        self.assertEqual(house.record(0), ("sold", 5, 1, 2, None, (5,), False))
        self.assertEqual(house.record(1), ("free", None, 1, 2, None, (), False))

    def test_the_story_of_deeds(self):
        house = every_house()
        house.open_page(5)
        house.press(0, "hold", 0, 1)
        house.comes(0, length=4)
        house.hear(0)
        house.tick(5)
        house.refresh(0)
        house.lose(1)
        house.sweep("lapse", 1)
        house.old_answer(0, "my held", "free")
        house.press(0, "pay", 0)
        house.comes(2, 2)
        house.close_page(0)
        self.assertEqual(house.story(), EVERY_EVENT)
        other = every_house()
        play(other, house.story())
        self.assertEqual(told(other), told(house))

    def test_refused_letters_and_sweeps_are_events(self):
        house = house_of(HOLD, LAPSE)
        events = [("open", 1), ("sweep", "lapse", 0, 3), ("open", 2), ("press", 0, "hold", (0,)), ("press", 1, "hold", (0,)),
                  ("comes", 1, 1), ("comes", 0, 2)]
        self.assertEqual(play(house, events), [0, False, 1, 0, 1, True, False])
        self.assertEqual(house.story(), events)

    def test_no_events(self):
        house = every_house()
        self.assertEqual(play(house, []), [])
        self.assertEqual(house.story(), [])

    def test_it_stops_at_the_first_error_and_keeps_what_was_ahead(self):
        house = every_house()
        with self.assertRaises(NoLetter) as caught:
            play(house, [("open", 5), ("tick", 2), ("comes", 0, 1), ("tick", 3)])
        self.assertEqual(caught.exception.letter, 0)
        self.assertEqual(house.story(), [("open", 5), ("tick", 2)])
        self.assertEqual(house.now, 2)

    def test_errors_of_deeds(self):
        for event, error in [(("press", 0, "hold", ()), BadBasket), (("press", 0, "pay", (0,)), NotShown),
                             (("sweep", "hold", 0, 1), NoRow), (("tick", 0), BadLength)]:
            with self.assertRaises(error):
                play(every_house(), [("open", 5), event])

    def test_bad_events(self):
        good = dict((event[0], event) for event in EVERY_EVENT)
        self.assertEqual(len(good), 10)
        bad = [(), ("",), ("send", 0, "hold", (0,)), ("wait", 3), (0, 1), (None,), ("opens", 1)]
        for event in good.values():
            bad.extend([event[:-1], event + (1,), event[:1]])
        for event in bad:
            house = every_house()
            with self.assertRaises(BadEvent, msg=event) as caught:
                play(house, [("open", 5), ("tick", 2), event, ("none",)])
            self.assertEqual(caught.exception.index, 2)
            self.assertEqual(house.story(), [("open", 5), ("tick", 2)])

    def test_a_bad_event_is_raised_when_its_turn_comes(self):
        house = every_house()
        with self.assertRaises(BadLength):
            play(house, [("tick", 0), ("none",)])
        with self.assertRaises(BadEvent) as caught:
            play(house, [("none",), ("tick", 0)])
        self.assertEqual(caught.exception.index, 0)


class Undo(unittest.TestCase):

    def test_nothing_to_undo(self):
        house = every_house()
        with self.assertRaises(NothingToUndo):
            house.undo()
        house.tick()
        self.assertIsNone(house.undo())
        with self.assertRaises(NothingToUndo):
            house.undo()

    def test_back_to_the_beginning(self):
        house = every_house()
        ahead = []
        for event in EVERY_EVENT:
            ahead.append(told(house))
            play(house, [event])
        while ahead:
            house.undo()
            self.assertEqual(told(house), ahead.pop())
        with self.assertRaises(NothingToUndo):
            house.undo()
        self.assertEqual(play(house, EVERY_EVENT), EVERY_ANSWER)

    def test_each_event_can_be_done_again(self):
        house = every_house()
        for event, answer in zip(EVERY_EVENT, EVERY_ANSWER):
            play(house, [event])
            behind = told(house)
            house.undo()
            self.assertEqual(play(house, [event]), [answer])
            self.assertEqual(told(house), behind)

    def test_a_send_is_undone_deed_by_deed(self):
        house = house_of(HOLD)
        house.open_page(1)
        house.send(0, "hold", 0)
        house.undo()
        self.assertEqual((house.shown(0), house.record(0)[0]), ((("free", 0, 0),), "held"))
        house.undo()
        self.assertEqual(house.record(0)[0], "free")
        house.undo()
        with self.assertRaises(NoLetter):
            house.comes(0)

    def test_wrongs_are_undone(self):
        house = open_house(5)
        house.send(0, "tip", 0)
        house.undo()
        self.assertEqual(house.wrongs(0), [(2, "astray")])
        house.undo()
        self.assertEqual(house.wrongs(0), [])

    def test_an_undone_closing(self):
        house = house_of(HOLD)
        play(house, [("open", 1), ("press", 0, "hold", (0,)), ("comes", 0, 1), ("close", 0)])
        house.undo()
        house.hear(0)
        self.assertEqual(house.shown(0), (("my held", 1, 1),))


class Lists(unittest.TestCase):
    """Point [2]: lists that are told are new, and those that are passed in are left as they are."""

    def test_lists_that_are_changed(self):
        house = open_house(5, 6, seats=2)
        house.send(0, "tip", 0, 1)
        house.old_answer(1, "my sold", "free")
        house.comes(house.press(1, "leave", 1))
        twin = house.twin()
        before = told(house)
        self.assertEqual((house.wrongs(1), house.failed(1)), ([(3, "astray")], [(1, "deed")]))
        for each in (house, twin):
            for method, number in ((each.wrongs, 0), (each.wrongs, 1), (each.failed, 1)):
                method(number).append(("x", 1))
                method(number).clear()
            each.story().clear()
        self.assertEqual((told(house), told(twin)), (before, before))
        house.send(0, "tip", 1)
        self.assertEqual((house.wrongs(0), house.wrongs(1)), ([(3, "astray")], [(3, "astray"), (9, "twice"), (9, "astray")]))
        self.assertEqual(told(twin), before)

    def test_wrongs_behind_events_that_were_undone(self):
        house = open_house(5)
        house.send(0, "tip", 0)
        for _ in range(3):
            house.undo()
        house.tick()
        house.tick()
        twin = house.twin()
        house.send(0, "tip", 0)
        twin.send(0, "buy", 0)
        self.assertEqual((house.wrongs(0), twin.wrongs(0)), ([(4, "astray")], [(4, "unpaid")]))

    def test_events_are_left_as_they_are(self):
        house = open_house(5)
        events = [("tick", 2), ("press", 0, "hold", (0,)), ("comes", 0, 1)]
        kept = list(events)
        what_if(house, events)
        play(house, events)
        self.assertEqual(events, kept)
        events.clear()
        self.assertEqual(house.story()[-3:], kept)


class Twins(unittest.TestCase):

    def test_a_twin_is_the_same(self):
        house = every_house()
        play(house, EVERY_EVENT)
        twin = house.twin()
        self.assertIsNot(twin, house)
        self.assertEqual(told(twin), told(house))

    def test_twins_are_independent(self):
        house = every_house()
        play(house, EVERY_EVENT[:3])
        before = told(house)
        twin = house.twin()
        play(twin, EVERY_EVENT[3:])
        self.assertEqual(told(house), before)
        behind = told(twin)
        play(house, [("tick", 9), ("lose", 0), ("open", 3)])
        house.undo()
        self.assertEqual(told(twin), behind)

    def test_a_twin_can_undo_as_far(self):
        house = every_house()
        play(house, EVERY_EVENT)
        before = told(house)
        twin = house.twin()
        for _ in EVERY_EVENT:
            twin.undo()
        self.assertEqual(told(twin), told(every_house()))
        with self.assertRaises(NothingToUndo):
            twin.undo()
        self.assertEqual(told(house), before)
        for _ in EVERY_EVENT:
            house.undo()

    def test_the_class_of_a_twin(self):

        class Other(House):
            pass

        for made in (House, GuardedHouse, Other):
            self.assertIs(type(every_house(made).twin()), made)
            self.assertIs(type(every_house(made).twin().twin()), made)

    def test_a_twin_of_a_new_house(self):
        twin = every_house().twin()
        self.assertEqual(play(twin, EVERY_EVENT), EVERY_ANSWER)


class WhatIf(unittest.TestCase):

    def test_it_returns_what_play_returns_and_leaves_the_house(self):
        house = every_house()
        play(house, EVERY_EVENT[:2])
        before = told(house)
        self.assertEqual(what_if(house, EVERY_EVENT[2:]), EVERY_ANSWER[2:])
        self.assertEqual(told(house), before)
        self.assertEqual(play(house, EVERY_EVENT[2:]), EVERY_ANSWER[2:])

    def test_it_leaves_the_house_if_it_raises(self):
        house = every_house()
        play(house, EVERY_EVENT[:2])
        before = told(house)
        for last, error in [(("hear", 7), HoldError), (("none",), BadEvent), (("tick", 0), BadLength)]:
            with self.assertRaises(error):
                what_if(house, [("comes", 0, 1), ("tick", 3), last])
            self.assertEqual(told(house), before)

    def test_the_index_of_a_bad_event(self):
        with self.assertRaises(BadEvent) as caught:
            what_if(every_house(), [("tick", 1), ("tick",)])
        self.assertEqual(caught.exception.index, 1)


class Guarded(unittest.TestCase):

    def house(self, *visitors, seats=1, more=""):
        house = GuardedHouse(book_of(OPEN_ROWS + more), seats=seats)
        for visitor in visitors:
            house.open_page(visitor)
        return house

    def guards(self, wrong, house, deed, *args, **more):
        before = told(house)
        with self.assertRaises(WrongAhead, msg=args) as caught:
            getattr(house, deed)(*args, **more)
        self.assertEqual(caught.exception.wrong, wrong)
        self.assertEqual(told(house), before)

    def test_it_is_a_house(self):
        self.assertEqual(GuardedHouse.__bases__, (House,))
        house = every_house(GuardedHouse)
        self.assertEqual(play(house, EVERY_EVENT), EVERY_ANSWER)
        self.assertEqual(house.story(), EVERY_EVENT)

    def test_comes(self):
        house = self.house(5, 6)
        house.press(0, "hold", 0)
        house.press(1, "hold", 0)
        self.assertTrue(house.comes(0, 3))
        self.guards("taken", house, "comes", 1)
        house.tick(4)
        self.assertTrue(house.comes(1))

    def test_send(self):
        house = self.house(5, 6)
        house.send(0, "hold", 0)
        self.guards("taken", house, "send", 1, "hold", 0)
        self.guards("unpaid", house, "send", 0, "buy", 0)
        self.guards("astray", house, "send", 0, "tip", 0)
        self.assertEqual(house.press(1, "hold", 0), 1)
        self.assertEqual(house.wrongs(0), [])

    def test_sweep(self):
        house = self.house(5, more="drop: ? ! free\n")
        house.send(0, "hold", 0, length=3)
        self.guards("taken", house, "sweep", "drop", 0)
        house.tick(4)
        self.assertTrue(house.sweep("drop", 0))

    def test_the_first_wrong_in_their_order(self):
        house = self.house(5, 6)
        house.send(0, "pay", 0)
        self.guards("twice", house, "send", 1, "pay", 0)
        self.guards("twice", house, "send", 1, "tip", 0)
        self.guards("astray", house, "send", 1, "hold", 0)
        other = self.house(5, 6)
        other.send(0, "hold", 0)
        self.guards("astray", other, "send", 1, "tip", 0)
        self.guards("unpaid", other, "send", 1, "buy", 0)
        self.guards("taken", other, "send", 1, "leave", 0)

    def test_the_first_seat_of_a_basket_that_has_one(self):
        house = self.house(5, 6, seats=3)
        house.send(0, "pay", 1)
        house.send(0, "hold", 2)
        self.guards("taken", house, "send", 1, "pay", 0, 2, 1)
        self.guards("twice", house, "send", 1, "pay", 0, 1, 2)
        letter = house.press(1, "pay", 2, 1)
        self.guards("taken", house, "comes", letter)
        self.assertTrue(house.send(1, "pay", 0))

    def test_a_refused_basket_has_no_wrong(self):
        house = self.house(5, 6, seats=2, more=f"ask: {ALL} ? paid ! take held\n")
        house.send(0, "hold", 0)
        self.assertFalse(house.send(1, "ask", 0, 1))

    def test_wrong_ahead_comes_last(self):
        house = self.house(5, 6, more="drop: ? ! free\n")
        house.send(0, "hold", 0)
        letter = house.press(1, "hold", 0)
        for call in (lambda: house.comes(letter, 0), lambda: house.send(1, "hold", 0, length=0),
                     lambda: house.sweep("drop", 0, 0)):
            with self.assertRaises(BadLength):
                call()

    def test_twin_what_if_play_and_undo(self):
        house = self.house(5, 6)
        house.send(0, "hold", 0)
        house.press(1, "hold", 0)
        twin = house.twin()
        self.guards("taken", twin, "comes", 1)
        before = told(house)
        with self.assertRaises(WrongAhead):
            what_if(house, [("tick", 1), ("comes", 1, 1)])
        self.assertEqual(told(house), before)
        self.assertEqual(what_if(house, [("tick", 2), ("comes", 1, 1)]), [None, True])
        with self.assertRaises(WrongAhead):
            play(house, [("tick", 1), ("comes", 1, 1), ("tick", 5)])
        self.assertEqual(house.now, 1)
        for _ in range(7):
            house.undo()
        self.assertEqual(house.story(), [])

    def test_errors_of_its_book_and_seats(self):
        with self.assertRaises(HoldError):
            GuardedHouse(((), ()))
        with self.assertRaises(HoldError):
            GuardedHouse(book=book_of(HOLD), seats=0)


if __name__ == "__main__":
    unittest.main()
