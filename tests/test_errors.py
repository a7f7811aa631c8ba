"""Points [2] and [3]: the error classes, and what holds for all functions."""

import inspect
import unittest

from onehold import errors
from onehold.books import check_book, looks_for, read_book, show_book
from onehold.errors import BadWorld, HoldError, InvalidRow, InvalidSituation, InvalidStates
from onehold.houses import GuardedHouse, House, play, what_if
from onehold.situations import after, effect, steps_at
from tests.samples import HOLD, PAY, STATES, book_of, house_of, told

FIELDS = {
    "InvalidStates": ["index"], "InvalidRow": ["index", "part"], "InvalidText": ["line"],
    "BadWrong": ["index"], "BadWorld": ["world"], "NoSeat": ["seat"], "NoPage": ["page"],
    "NoRow": ["name"], "BadBasket": [], "NotShown": ["seat"], "BadWords": [],
    "NoLetter": ["letter"], "NoAnswer": ["letter"], "BadLength": ["length"],
    "NothingToUndo": [], "BadEvent": ["index"], "WrongAhead": ["wrong"],
    "InvalidSituation": [], "NotDone": [], "BadPages": ["pages"], "BadMost": ["most"],
    "HasWrong": ["wrong"], "UnlikeStates": [], "BadLook": ["name", "look"],
}
FIRST = ("free", "", "none", ())


class ErrorClasses(unittest.TestCase):

    def test_base_class(self):
        self.assertEqual(HoldError.__bases__, (ValueError,))

    def test_all_of_them_are_there_and_no_others(self):
        classes = inspect.getmembers(errors, inspect.isclass)
        self.assertEqual(sorted(name for name, _ in classes), sorted([*FIELDS, "HoldError"]))

    def test_each_one_stands_directly_below_hold_error(self):
        for name in FIELDS:
            self.assertEqual(getattr(errors, name).__bases__, (HoldError,), name)

    def test_fields_by_position_and_by_name(self):
        values = ["one", "two"]
        for name, fields in FIELDS.items():
            made = getattr(errors, name)
            by_position = made(*values[:len(fields)])
            by_name = made(**dict(zip(fields, values)))
            for error in (by_position, by_name):
                self.assertEqual([getattr(error, field) for field in fields], values[:len(fields)], name)
            self.assertNotEqual(str(by_name), "")
            self.assertEqual(str(by_name), str(by_position))

    def test_the_number_of_arguments(self):
        for name, fields in FIELDS.items():
            with self.assertRaises(TypeError, msg=name):
                getattr(errors, name)(*range(len(fields) + 1))
            if fields:
                with self.assertRaises(TypeError, msg=name):
                    getattr(errors, name)()


class BookErrorsFirst(unittest.TestCase):
    """Every function that takes a book raises the errors of check_book first."""

    def calls(self):
        return [
            check_book, looks_for, show_book,
            House, GuardedHouse,
            lambda book: House(book, seats=0),
            lambda book: list(steps_at(book, ("no", "situation"), world="no world")),
            lambda book: after(book, ("no", "situation"), ()),
            lambda book: effect(book, ("no", "situation"), ()),
        ]

    def test_states(self):
        for index, call in enumerate(self.calls()):
            with self.assertRaises(InvalidStates, msg=index) as caught:
                call(((("held", True, False), ("free", False, False)), (("", (), (), "", ()),)))
            self.assertEqual(caught.exception.index, 1)

    def test_rows(self):
        for index, call in enumerate(self.calls()):
            with self.assertRaises(InvalidRow, msg=index) as caught:
                call(((("held", True, False),), (("a", (), ("mine",), "free", ()),)))
            self.assertEqual((caught.exception.index, caught.exception.part), (0, "looks"))

    def test_world_behind_the_book_ahead_of_the_situation(self):
        with self.assertRaises(BadWorld) as caught:
            list(steps_at(book_of(HOLD), ("no", "situation"), world="early"))
        self.assertEqual(caught.exception.world, "early")
        with self.assertRaises(InvalidSituation):
            list(steps_at(book_of(HOLD), ("no", "situation"), world="fresh"))

    def test_a_generator_raises_when_its_first_row_is_asked_for(self):
        with self.assertRaises(BadWorld):
            next(steps_at(book_of(HOLD), FIRST, world=""))


class ListsAndArguments(unittest.TestCase):

    def test_returned_lists_are_new(self):
        house = house_of(HOLD, PAY)
        play(house, [("open", 1), ("old", 0, ("my held",)), ("press", 0, "pay", (0,)), ("comes", 0, 1)])
        play(house, [("open", 1), ("press", 1, "hold", (0,)), ("comes", 1, 1)])
        play(house, [("old", 0, ("my held",)), ("press", 0, "pay", (0,)), ("comes", 2, 1)])
        play(house, [("old", 0, ("my held",)), ("open", 2), ("press", 0, "pay", (0,)), ("comes", 3, 1)])
        before = told(house)
        self.assertEqual(house.failed(0), [(0, "mine")])
        self.assertNotEqual(house.wrongs(0), [])
        for call in (lambda: house.failed(0), house.story, lambda: house.wrongs(0), lambda: house.failed(1)):
            call().append("more")
            call().clear()
            self.assertEqual(told(house), before)
        book = book_of(HOLD)
        looks_for(book).clear()
        self.assertEqual(len(looks_for(book)), 14)

    def test_returned_lists_do_not_change_later(self):
        house = house_of(HOLD)
        house.open_page(1)
        story = house.story()
        house.tick()
        self.assertEqual(story, [("open", 1)])

    def test_arguments_are_left_as_they_are(self):
        house = house_of(HOLD)
        events = [("open", 1), ("press", 0, "hold", (0,)), ("comes", 0, 4)]
        kept = list(events)
        what_if(house, events)
        play(house, events)
        self.assertEqual(events, kept)
        play(house, [("tick", 1)])
        self.assertEqual(events, kept)

    def test_events_that_are_played_are_not_the_story_itself(self):
        house = house_of(HOLD)
        events = [("open", 1), ("tick", 2)]
        play(house, events)
        events.clear()
        self.assertEqual(house.story(), [("open", 1), ("tick", 2)])

    def test_a_house_plays_its_own_story(self):
        house = house_of(HOLD)
        play(house, [("open", 1), ("tick", 2)])
        self.assertEqual(play(house, house.story()), [1, None])

    def test_calls_by_name(self):
        book = read_book(text=STATES + HOLD)
        self.assertIsNone(check_book(book=book))
        self.assertEqual(show_book(book=book), STATES + HOLD)
        self.assertEqual(looks_for(book=book), looks_for(book))
        house = House(book=book, seats=2)
        self.assertEqual(play(house=house, events=[("open", 1)]), [0])
        self.assertEqual(what_if(house=house, events=[("open", 1)]), [1])
        step = ("hold", "outsider", "still", "free")
        self.assertEqual(list(steps_at(book=book, situation=FIRST, world="fresh")), [step])
        self.assertEqual(after(book=book, situation=FIRST, step=step), after(book, FIRST, step))
        self.assertEqual(effect(book=book, situation=FIRST, step=step), effect(book, FIRST, step))

    def test_seats_and_world_are_passed_by_name_alone(self):
        with self.assertRaises(TypeError):
            House(book_of(HOLD), 2)
        with self.assertRaises(TypeError):
            steps_at(book_of(HOLD), FIRST, "late")


if __name__ == "__main__":
    unittest.main()
