"""Points [9] to [14]: houses, their seats, pages, letters and sweeps, and what they tell."""

import unittest

from onehold import errors
from onehold.errors import (
    BadBasket, BadLength, BadWords, NoAnswer, NoLetter, NoPage, NoRow, NoSeat, NotShown,
)
from onehold.houses import House, play
from tests.samples import ALL, HOLD, PAY, STATES, book_of, house_of, open_house, told

SWEEPS = ("over: ? over ! free\n", "running: ? running ! move held\n", "any: ? ! move sold\n")


class Records(unittest.TestCase):
    """Point [9]."""

    def test_the_first_record(self):
        house = house_of(HOLD, seats=2)
        self.assertEqual(house.record(0), ("free", None, 0, 0, None, (), False))
        self.assertEqual(house.record(1), house.record(0))
        self.assertEqual(house.now, 0)

    def steps(self, house, *steps):
        """Send the rows of (page, name, length), and return the records behind them."""
        records = []
        for page, name, length in steps:
            self.assertTrue(house.send(page, name, 0, length=length), name)
            records.append(house.record(0))
        return records

    def test_take_a_free_seat(self):
        house = open_house(5)
        house.tick(10)
        self.assertEqual(self.steps(house, (0, "hold", 3)), [("held", 5, 1, 1, 13, (), False)])

    def test_take_into_a_state_that_is_not_timed(self):
        house = open_house(5)
        self.assertEqual(self.steps(house, (0, "buy", 3)), [("sold", 5, 1, 1, None, (), False)])

    def test_take_ones_own_seat(self):
        house = open_house(5)
        self.assertEqual(self.steps(house, (0, "hold", 3), (0, "hold", 8), (0, "buy", 1)), [
            ("held", 5, 1, 1, 3, (), False), ("held", 5, 1, 2, 8, (), False), ("sold", 5, 1, 3, None, (), False)])

    def test_take_the_seat_of_another(self):
        house = open_house(5, 6)
        self.assertEqual(self.steps(house, (0, "hold", 3), (1, "hold", 4), (0, "hold", 5)), [
            ("held", 5, 1, 1, 3, (), False), ("held", 6, 2, 2, 4, (), False), ("held", 5, 3, 3, 5, (), False)])

    def test_move(self):
        house = open_house(5, 6)
        self.assertEqual(self.steps(house, (0, "hold", 3), (1, "close", 4), (1, "turn", 6)), [
            ("held", 5, 1, 1, 3, (), False), ("sold", 5, 1, 2, None, (), False), ("held", 5, 1, 3, 6, (), False)])

    def test_free_and_take_again(self):
        house = open_house(5, 6)
        self.assertEqual(self.steps(house, (0, "hold", 3), (1, "leave", 4), (0, "hold", 6)), [
            ("held", 5, 1, 1, 3, (), False), ("free", None, 1, 2, None, (), False), ("held", 5, 2, 3, 6, (), False)])

    def test_time(self):
        house = open_house(5, 6)
        self.steps(house, (0, "hold", 3))
        house.tick(2)
        self.assertEqual(self.steps(house, (1, "longer", 7)), [("held", 5, 1, 2, 9, (), False)])

    def test_time_may_become_shorter(self):
        house = open_house(5)
        self.assertEqual(self.steps(house, (0, "hold", 30), (0, "longer", 2))[1], ("held", 5, 1, 2, 2, (), False))

    def test_a_mark_alone_leaves_until(self):
        house = open_house(5)
        self.steps(house, (0, "hold", 3))
        house.tick(2)
        self.assertEqual(self.steps(house, (0, "fresh", 9), (0, "back", 9), (0, "tip", 9)), [
            ("held", 5, 2, 2, 3, (), False), ("held", 5, 2, 3, 3, (), False), ("held", 5, 2, 4, 3, (5,), True)])

    def test_new(self):
        house = open_house(5, more=f"renew: {ALL} ? ! move held, new\nretake: {ALL} ? ! take held, new\n")
        self.assertEqual(self.steps(house, (0, "retake", 3), (0, "renew", 4), (0, "retake", 5), (0, "fresh", 6)), [
            ("held", 5, 1, 1, 3, (), False), ("held", 5, 2, 2, 4, (), False),
            ("held", 5, 3, 3, 5, (), False), ("held", 5, 4, 4, 5, (), False)])

    def test_new_and_another_who_raise_the_number_by_one_in_all(self):
        house = open_house(5, 6, more=f"retake: {ALL} ? ! take held, new\n")
        self.assertEqual(self.steps(house, (0, "retake", 3), (1, "retake", 4))[1], ("held", 6, 2, 2, 4, (), False))

    def test_sweeps(self):
        house = open_house(5, more="".join(SWEEPS) + "give: ? ! refund\n")
        self.assertFalse(house.sweep("any", 0))
        self.steps(house, (0, "hold", 3))
        house.tick(2)
        self.assertTrue(house.sweep("running", 0, length=6))
        self.assertEqual(house.record(0), ("held", 5, 1, 2, 8, (), False))
        self.assertTrue(house.sweep("any", 0, 7))
        self.assertEqual(house.record(0), ("sold", 5, 1, 3, None, (), False))
        self.assertTrue(house.sweep("give", 0))
        self.assertEqual(house.record(0), ("sold", 5, 1, 4, None, (), False))

    def test_a_time_that_is_just_over_and_one_that_is_not(self):
        house = open_house(5, more="".join(SWEEPS))
        self.steps(house, (0, "hold", 3))
        house.tick(3)
        self.assertFalse(house.sweep("over", 0))
        self.assertTrue(house.twin().sweep("running", 0))
        house.tick()
        self.assertFalse(house.sweep("running", 0))
        self.assertTrue(house.sweep("over", 0))
        self.assertEqual(house.record(0), ("free", None, 1, 2, None, (), False))

    def test_running_and_over_need_a_time(self):
        house = open_house(5, more="".join(SWEEPS))
        self.assertEqual((house.sweep("over", 0), house.sweep("running", 0)), (False, False))
        self.steps(house, (0, "buy", 3))
        self.assertEqual((house.sweep("over", 0), house.sweep("running", 0)), (False, False))
        house.tick(9)
        self.assertEqual((house.sweep("over", 0), house.sweep("running", 0)), (False, False))


class Money(unittest.TestCase):
    """Payments, in point [9]."""

    def kept(self, house):
        return house.record(0)[5:]

    def test_a_good_payment(self):
        house = open_house(5)
        house.send(0, "pay", 0)
        self.assertEqual(house.record(0), ("sold", 5, 1, 1, None, (5,), False))
        house.send(0, "close", 0)
        self.assertEqual(self.kept(house), ((5,), False))

    def test_a_payment_at_a_seat_that_is_not_sold(self):
        house = open_house(5)
        house.send(0, "tip", 0)
        self.assertEqual(house.record(0), ("free", None, 0, 1, None, (5,), True))

    def test_a_payment_of_somebody_who_is_not_who(self):
        house = open_house(5, 6)
        house.send(0, "buy", 0)
        house.send(1, "tip", 0)
        self.assertEqual(self.kept(house), ((6,), True))

    def test_a_payment_that_was_good(self):
        for name, page in [("leave", 0), ("turn", 0), ("buy", 1)]:
            house = open_house(5, 6)
            house.send(0, "pay", 0)
            house.send(page, name, 0)
            self.assertEqual(self.kept(house), ((5,), True), name)

    def test_astray_stays_until_a_refund(self):
        house = open_house(5, 6)
        house.send(0, "pay", 0)
        house.send(1, "buy", 0)
        house.send(0, "buy", 0)
        self.assertEqual(house.record(0), ("sold", 5, 3, 3, None, (5,), True))
        house.tick(3)
        house.send(0, "close", 0)
        self.assertEqual(self.kept(house), ((5,), True))
        house.send(0, "back", 0)
        self.assertEqual(self.kept(house), ((), False))

    def test_a_refund_comes_ahead_of_a_payment(self):
        house = open_house(5, 6, more=f"swap: {ALL} ? ! take sold, keep, refund\n")
        house.send(0, "tip", 0)
        house.send(1, "swap", 0)
        self.assertEqual(house.record(0), ("sold", 6, 1, 2, None, (6,), False))

    def test_money_of_a_refused_letter_goes_back(self):
        house = house_of(HOLD, "pay: free ? mine ! take sold, keep\n")
        house.open_page(5)
        before = house.record(0)
        self.assertFalse(house.send(0, "pay", 0))
        self.assertEqual(house.record(0), before)

    def test_two_payments_shut_the_seat(self):
        house = open_house(5, 6, more="".join(SWEEPS))
        house.send(0, "pay", 0)
        house.send(1, "tip", 0)
        self.assertEqual(house.record(0), ("sold", 5, 1, 2, None, (5, 6), True))
        shut = house.record(0)
        for name in ["hold", "pay", "back", "leave", "fresh", "close", "longer"]:
            self.assertFalse(house.send(0, name, 0), name)
        self.assertFalse(house.sweep("any", 0))
        self.assertEqual(house.record(0), shut)

    def test_two_payments_of_one_visitor(self):
        house = open_house(5)
        house.send(0, "pay", 0)
        house.send(0, "pay", 0)
        self.assertEqual(house.record(0), ("sold", 5, 1, 2, None, (5, 5), False))
        self.assertFalse(house.send(0, "back", 0))


class Needs(unittest.TestCase):
    """What the deeds and "new" need, in points [9] and [14]."""

    def refused(self, house, name):
        before = house.record(0)
        self.assertFalse(house.send(0, name, 0), name)
        self.assertEqual(house.record(0), before)
        return house.failed(len([event for event in house.story() if event[0] == "press"]) - 1)

    def test_at_a_free_seat(self):
        house = open_house(5, more=f"mixed: {ALL} ? ! move held, new\n")
        for name in ["turn", "close", "leave", "longer", "fresh", "mixed"]:
            self.assertEqual(self.refused(house, name), [(0, "deed")], name)
        for name in ["hold", "buy", "pay", "tip", "back"]:
            self.assertTrue(house.twin().send(0, name, 0), name)

    def test_time_where_the_state_is_not_timed(self):
        house = open_house(5)
        house.send(0, "buy", 0)
        self.assertEqual(self.refused(house, "longer"), [(0, "deed")])
        for name in ["turn", "close", "leave", "fresh", "hold"]:
            self.assertTrue(house.twin().send(0, name, 0), name)

    def test_time_where_the_time_is_over(self):
        house = open_house(5)
        house.send(0, "hold", 0)
        house.tick(5)
        self.assertTrue(house.send(0, "longer", 0, length=2))
        self.assertEqual(house.record(0)[4], 7)


class EachLook(unittest.TestCase):
    """The looks of point [5], one by one."""

    def check(self, look, *expected):
        """The row with this look alone: is it done for who, an outsider, at a free seat?"""
        house = open_house(5, 6, 6, more=f"ask: {ALL} ? {look} ! keep\n")
        free = house.twin().send(0, "ask", 0)
        house.send(0, "hold", 0, length=3)
        for page in (0, 1):
            play(house, [("refresh", page), ("comes", page + 1, 1), ("hear", page + 1)])
        found = (house.twin().send(0, "ask", 0), house.twin().send(1, "ask", 0), free)
        self.assertEqual(found, expected, look)

    def test_states(self):
        self.check("at free", False, False, True)
        self.check("at held", True, True, False)
        self.check("at sold", False, False, False)
        self.check("not free", True, True, False)
        self.check("not held", False, False, True)
        self.check("not sold", True, True, True)

    def test_senders(self):
        self.check("mine", True, False, False)
        self.check("other", False, True, False)

    def test_times(self):
        self.check("running", True, True, False)
        self.check("over", False, False, False)

    def test_payments(self):
        self.check("unpaid", True, True, True)
        self.check("paid", False, False, False)
        house = open_house(5, more=f"ask: {ALL} ? unpaid ! keep\ntwo: {ALL} ? paid ! refund\n")
        house.send(0, "tip", 0)
        self.assertFalse(house.send(0, "ask", 0))
        self.assertTrue(house.send(0, "two", 0))
        self.assertTrue(house.send(0, "ask", 0))

    def test_views(self):
        rows = f"num: {ALL} ? same ! refund\nnow: {ALL} ? still ! refund\n"
        house = open_house(5, 6, more=rows)

        def both():
            return (house.twin().send(1, "num", 0), house.twin().send(1, "now", 0))

        self.assertEqual(both(), (True, True))
        house.send(0, "back", 0)
        self.assertEqual(both(), (True, False))
        house.send(0, "hold", 0)
        self.assertEqual(both(), (False, False))
        house.send(1, "now", 0)
        self.assertEqual(both(), (True, True))
        house.send(0, "leave", 0)
        self.assertEqual(both(), (True, False))
        house.send(1, "now", 0)
        house.old_answer(1, "free")
        self.assertEqual(both(), (False, False))

    def test_looks_are_asked_ahead_of_the_step_with_the_view_of_the_press(self):
        house = open_house(5, 6, more=f"ask: {ALL} ? still ! take held\n")
        letter = house.press(1, "ask", 0)
        self.assertTrue(house.twin().comes(letter))
        house.send(0, "tip", 0)
        play(house, [("refresh", 1), ("comes", 2, 1), ("hear", 2)])
        self.assertEqual(house.shown(1), (("free", 0, 1),))
        self.assertFalse(house.comes(letter))
        self.assertEqual(house.failed(letter), [(0, "still")])


class Views(unittest.TestCase):
    """Point [10], and the pages of point [12]."""

    def test_words_numbers_turns(self):
        house = open_house(5, 6, 5, seats=2)
        self.assertEqual(house.shown(0), (("free", 0, 0), ("free", 0, 0)))
        house.send(0, "hold", 1)
        house.send(0, "longer", 1)
        self.assertEqual(house.shown(0), (("free", 0, 0), ("my held", 1, 2)))
        self.assertEqual(house.shown(2), (("free", 0, 0), ("free", 0, 0)))
        house.send(1, "buy", 0)
        self.assertEqual(house.shown(1), (("my sold", 1, 1), ("others held", 1, 2)))

    def test_a_page_shows_the_house_when_it_is_opened(self):
        house = open_house(0)
        house.send(0, "hold", 0)
        self.assertEqual((house.open_page(0), house.open_page(1)), (1, 2))
        self.assertEqual(house.shown(1), (("my held", 1, 1),))
        self.assertEqual(house.shown(2), (("others held", 1, 1),))
        house.send(0, "leave", 0)
        self.assertEqual(house.shown(1), (("my held", 1, 1),))
        self.assertEqual(house.shown(0), (("free", 1, 2),))

    def test_the_views_are_those_of_the_moment_when_the_letter_came(self):
        house = open_house(5, 6)
        letter = house.refresh(1)
        house.send(0, "hold", 0)
        self.assertEqual(house.shown(1), (("free", 0, 0),))
        house.comes(letter)
        house.send(0, "leave", 0)
        house.hear(letter)
        self.assertEqual(house.shown(1), (("others held", 1, 1),))

    def test_the_answer_heard_last_counts_even_if_it_is_older(self):
        house = open_house(5, 6)
        first = house.refresh(1)
        house.comes(first)
        house.send(0, "hold", 0)
        second = house.refresh(1)
        house.comes(second)
        house.hear(second)
        self.assertEqual(house.shown(1), (("others held", 1, 1),))
        house.hear(first)
        self.assertEqual(house.shown(1), (("free", 0, 0),))

    def test_the_answer_of_a_refused_letter_has_the_views_too(self):
        house = house_of(HOLD)
        house.open_page(5)
        house.open_page(6)
        house.send(0, "hold", 0)
        self.assertFalse(house.send(1, "hold", 0))
        self.assertEqual(house.shown(1), (("others held", 1, 1),))

    def test_old_answers(self):
        house = open_house(5, seats=2)
        self.assertIsNone(house.old_answer(0, "my sold", "others held"))
        self.assertEqual(house.shown(0), (("my sold", -1, -1), ("others held", -1, -1)))
        house.send(0, "hold", 0)
        self.assertEqual(house.shown(0), (("my held", 1, 1), ("free", 0, 0)))

    def test_closed_pages(self):
        house = open_house(5, 6)
        self.assertIsNone(house.close_page(0))
        for call in (house.shown, house.refresh, house.close_page, lambda page: house.press(page, "hold", 0)):
            with self.assertRaises(NoPage) as caught:
                call(0)
            self.assertEqual(caught.exception.page, 0)
        self.assertEqual(house.shown(1), (("free", 0, 0),))
        self.assertEqual(house.open_page(5), 2)


class Letters(unittest.TestCase):
    """The letters of point [12]."""

    def test_numbers(self):
        house = open_house(5, 6)
        self.assertEqual((house.press(0, "hold", 0), house.refresh(1), house.press(0, "hold", 0)), (0, 1, 2))
        house.lose(0)
        self.assertEqual(house.refresh(0), 3)
        house.send(0, "hold", 0)
        self.assertEqual(house.press(1, "hold", 0), 5)

    def test_a_letter_comes_once(self):
        house = open_house(5)
        letter = house.press(0, "hold", 0)
        self.assertTrue(house.comes(letter))
        with self.assertRaises(NoLetter) as caught:
            house.comes(letter)
        self.assertEqual(caught.exception.letter, letter)

    def test_letters_overtake_each_other(self):
        house = open_house(5)
        house.press(0, "hold", 0)
        house.press(0, "buy", 0)
        house.comes(1)
        house.comes(0, 4)
        self.assertEqual(house.record(0), ("held", 5, 1, 2, 4, (), False))

    def test_a_refresh_changes_no_seat(self):
        house = open_house(5)
        house.refresh(0)
        before = house.record(0)
        self.assertIs(house.comes(0, 9), True)
        self.assertEqual(house.record(0), before)
        self.assertEqual(house.failed(0), [])
        house.refresh(0)
        with self.assertRaises(BadLength):
            house.comes(1, 0)

    def test_an_answer_is_heard_once(self):
        house = open_house(5)
        house.refresh(0)
        with self.assertRaises(NoAnswer):
            house.hear(0)
        house.comes(0)
        self.assertIsNone(house.hear(0))
        with self.assertRaises(NoAnswer) as caught:
            house.hear(0)
        self.assertEqual(caught.exception.letter, 0)

    def test_a_lost_letter(self):
        house = open_house(5)
        house.press(0, "hold", 0)
        self.assertIsNone(house.lose(0))
        for call in (house.comes, house.lose):
            with self.assertRaises(NoLetter):
                call(0)
        with self.assertRaises(NoAnswer):
            house.hear(0)
        self.assertEqual(house.failed(0), [])

    def test_a_lost_answer(self):
        house = open_house(5)
        house.press(0, "hold", 0)
        house.comes(0)
        house.lose(0)
        with self.assertRaises(NoAnswer):
            house.hear(0)
        with self.assertRaises(NoLetter):
            house.lose(0)
        self.assertEqual(house.record(0)[0], "held")

    def test_a_heard_answer_cannot_be_lost(self):
        house = open_house(5)
        house.send(0, "hold", 0)
        with self.assertRaises(NoLetter) as caught:
            house.lose(0)
        self.assertEqual(caught.exception.letter, 0)

    def test_a_letter_on_its_way_when_its_page_closes(self):
        house = open_house(5, 6)
        letter = house.press(0, "hold", 0)
        asked = house.refresh(0)
        lost = house.press(0, "hold", 0)
        house.close_page(0)
        self.assertIsNone(house.lose(lost))
        self.assertTrue(house.comes(letter, 4))
        self.assertTrue(house.comes(asked))
        self.assertEqual(house.record(0), ("held", 5, 1, 1, 4, (), False))
        for number in (letter, asked):
            with self.assertRaises(NoAnswer):
                house.hear(number)
            with self.assertRaises(NoLetter):
                house.lose(number)

    def test_a_letter_that_has_come_when_its_page_closes(self):
        house = open_house(5, 6)
        house.press(0, "hold", 0)
        house.press(1, "hold", 0)
        house.comes(0)
        house.comes(1)
        house.close_page(0)
        with self.assertRaises(NoAnswer):
            house.hear(0)
        with self.assertRaises(NoLetter):
            house.lose(0)
        self.assertIsNone(house.hear(1))

    def test_send_is_three_deeds(self):
        house = open_house(5)
        self.assertTrue(house.send(0, "hold", 0, length=4))
        self.assertEqual(house.story()[1:], [("press", 0, "hold", (0,)), ("comes", 0, 4), ("hear", 0)])
        self.assertEqual(house.shown(0), (("my held", 1, 1),))

    def test_send_returns_whether_it_is_done(self):
        house = open_house(5, 6, more=f"strict: {ALL} ? mine ! time\n")
        house.send(0, "hold", 0)
        self.assertIs(house.send(1, "strict", 0), False)
        self.assertIs(house.send(0, "strict", 0), True)
        self.assertEqual(house.failed(1), [(0, "mine")])

    def test_tick(self):
        house = house_of(HOLD)
        self.assertIsNone(house.tick())
        self.assertIsNone(house.tick(1000))
        self.assertEqual(house.now, 1001)

    def test_now_is_a_property(self):
        self.assertIsInstance(House.now, property)


class Baskets(unittest.TestCase):
    """Letters for several seats, in points [12] and [14]."""

    def test_done_for_all(self):
        house = open_house(5, seats=3)
        self.assertTrue(house.send(0, "pay", 2, 0, length=4))
        self.assertEqual(house.record(0), ("sold", 5, 1, 1, None, (5,), False))
        self.assertEqual(house.record(1), ("free", None, 0, 0, None, (), False))
        self.assertEqual(house.record(2), house.record(0))

    def test_refused_for_all(self):
        rows = f"pay: {ALL} ? at held, mine, unpaid ! take sold, keep\n"
        house = house_of(HOLD, rows, seats=3)
        house.open_page(5)
        house.open_page(6)
        house.send(0, "hold", 1)
        letter = house.press(0, "pay", 2, 1, 0)
        before = [house.record(seat) for seat in range(3)]
        self.assertFalse(house.comes(letter))
        self.assertEqual([house.record(seat) for seat in range(3)], before)
        self.assertEqual(house.failed(letter), [(2, "at held"), (2, "mine"), (0, "at held"), (0, "mine")])

    def test_each_seat_is_looked_at_with_its_own_view(self):
        rows = f"ask: {ALL} ? still ! take held\n"
        house = open_house(5, 6, seats=2, more=rows)
        house.send(0, "tip", 1)
        letter = house.press(1, "ask", 1, 0)
        self.assertFalse(house.comes(letter))
        self.assertEqual(house.failed(letter), [(1, "still")])

    def test_failed_looks_stand_in_the_order_of_the_row(self):
        house = house_of(f"ask: {ALL} ? paid, running, mine, not free, same ! time, new\n")
        house.open_page(5)
        house.old_answer(0, "free")
        house.send(0, "ask", 0)
        looks = ["paid", "running", "mine", "not free", "same", "deed"]
        self.assertEqual(house.failed(0), [(0, look) for look in looks])

    def test_failed_of_a_shut_seat(self):
        rows = f"ask: {ALL} ? at free ! time\n"
        house = open_house(5, seats=2, more=rows)
        house.send(0, "pay", 1)
        house.send(0, "pay", 1)
        letter = house.press(0, "ask", 1, 0)
        self.assertFalse(house.comes(letter))
        self.assertEqual(house.failed(letter), [(1, "shut"), (0, "deed")])

    def test_failed_tells_of_the_moment_of_the_refusal(self):
        house = house_of(HOLD)
        house.open_page(5)
        house.open_page(6)
        for page in (0, 1):
            house.press(page, "hold", 0)
        self.assertEqual((house.failed(0), house.failed(1)), ([], []))
        house.comes(0)
        house.comes(1)
        house.close_page(1)
        house.tick(3)
        self.assertEqual((house.failed(0), house.failed(1)), ([], [(0, "at free")]))

    def test_failed_of_no_letter(self):
        house = house_of(HOLD)
        house.open_page(5)
        house.press(0, "hold", 0)
        for letter in (1, -1, 7):
            with self.assertRaises(NoLetter) as caught:
                house.failed(letter)
            self.assertEqual(caught.exception.letter, letter)


class Wrongs(unittest.TestCase):
    """Points [11] and [14]."""

    def test_none(self):
        house = house_of(HOLD, PAY)
        house.open_page(5)
        house.send(0, "hold", 0)
        house.send(0, "pay", 0)
        self.assertEqual(house.wrongs(0), [])

    def test_each_with_the_number_of_its_event(self):
        house = open_house(5, 6, seats=2)
        house.send(0, "buy", 1)                    # events 2, 3, 4
        house.send(1, "pay", 1)                    # 5, 6, 7: takes it
        house.tick()                               # 8
        house.send(0, "tip", 1)                    # 9, 10, 11: the second payment
        self.assertEqual(house.wrongs(1), [(3, "unpaid"), (6, "taken"), (10, "twice"), (10, "astray")])
        self.assertEqual(house.wrongs(0), [])

    def test_astray_at_each_step_behind_which_it_is_true(self):
        house = open_house(5)
        house.send(0, "tip", 0)
        house.send(0, "hold", 0)
        house.send(0, "back", 0)
        self.assertEqual(house.wrongs(0), [(2, "astray"), (5, "astray")])

    def test_unpaid(self):
        house = open_house(5)
        house.send(0, "pay", 0)
        house.send(0, "back", 0)
        house.send(0, "fresh", 0)
        self.assertEqual(house.wrongs(0), [(5, "unpaid"), (8, "unpaid")])

    def test_taken_by_a_letter(self):
        for name, wrongs in [("hold", ["taken"]), ("leave", ["taken"]), ("turn", []), ("fresh", []), ("buy", ["unpaid", "taken"])]:
            house = open_house(5, 6)
            house.send(0, "hold", 0, length=3)
            house.tick(3)
            house.send(1, name, 0)
            self.assertEqual([wrong for _, wrong in house.wrongs(0)], wrongs, name)

    def test_not_taken_where_the_time_is_over(self):
        house = open_house(5, 6)
        house.send(0, "hold", 0, length=3)
        house.tick(4)
        house.send(1, "hold", 0)
        self.assertEqual(house.wrongs(0), [])

    def test_not_taken_where_the_seat_is_free_or_who_gives_it_up(self):
        house = open_house(5, 6)
        house.send(0, "hold", 0)
        house.send(0, "leave", 0)
        house.send(1, "hold", 0)
        self.assertEqual(house.wrongs(0), [])

    def test_taken_where_the_state_is_not_timed(self):
        house = open_house(5, 6)
        house.send(0, "pay", 0)
        house.tick(9)
        house.send(1, "leave", 0)
        self.assertEqual(house.wrongs(0), [(7, "astray"), (7, "taken")])

    def test_taken_by_a_sweep(self):
        house = open_house(5, more="drop: ? ! free\n")
        house.send(0, "hold", 0, length=3)
        house.sweep("drop", 0)
        self.assertEqual(house.wrongs(0), [(4, "taken")])
        house.send(0, "hold", 0, length=3)
        house.tick(4)
        house.sweep("drop", 0)
        self.assertEqual(house.wrongs(0), [(4, "taken")])

    def test_all_at_once(self):
        house = open_house(5, 6)
        house.send(0, "tip", 0)
        house.send(0, "hold", 0)
        house.send(1, "pay", 0)
        self.assertEqual(house.wrongs(0)[2:], [(9, "twice"), (9, "astray"), (9, "taken")])

    def test_refused_letters_have_none(self):
        house = open_house(5, 6)
        house.send(0, "pay", 0)
        house.send(1, "longer", 0)
        self.assertEqual(house.wrongs(0), [])

    def test_a_basket(self):
        house = open_house(5, 6, seats=2)
        house.send(0, "tip", 1)
        house.send(1, "buy", 1, 0)
        self.assertEqual(house.wrongs(0), [(6, "unpaid")])
        self.assertEqual(house.wrongs(1), [(3, "astray"), (6, "astray")])


class DeedErrors(unittest.TestCase):
    """Points [12] and [13]: which error is raised, and that it changes nothing."""

    def setUp(self):
        self.house = house_of(HOLD, PAY, "lapse: ? over ! free\n", seats=3)
        self.house.open_page(5)
        self.house.open_page(6)
        self.house.close_page(1)

    def fails(self, name, fields, deed, *args, **more):
        before = told(self.house)
        with self.assertRaises(getattr(errors, name), msg=(deed, args)) as caught:
            getattr(self.house, deed)(*args, **more)
        self.assertEqual(vars(caught.exception), fields, (deed, args))
        self.assertEqual(told(self.house), before)

    def test_seats_of_a_house(self):
        for seats in (0, -1):
            with self.assertRaises(NoSeat) as caught:
                House(book_of(HOLD), seats=seats)
            self.assertEqual(caught.exception.seat, seats)
        self.assertEqual(House(book_of(HOLD), seats=6).record(5)[0], "free")

    def test_no_page(self):
        for page in (1, 2, -1, 60):
            fields = {"page": page}
            self.fails("NoPage", fields, "close_page", page)
            self.fails("NoPage", fields, "old_answer", page)
            self.fails("NoPage", fields, "refresh", page)
            self.fails("NoPage", fields, "press", page, "lapse")
            self.fails("NoPage", fields, "send", page, "lapse", length=0)
            self.fails("NoPage", fields, "shown", page)

    def test_no_row(self):
        for name in ("none", "", "lapse"):
            self.fails("NoRow", {"name": name}, "press", 0, name)
            self.fails("NoRow", {"name": name}, "press", 0, name, 9)
            self.fails("NoRow", {"name": name}, "send", 0, name, 9, length=0)
        for name in ("none", "", "hold"):
            self.fails("NoRow", {"name": name}, "sweep", name, 9, 0)

    def test_no_seat(self):
        for seat in (3, -1):
            fields = {"seat": seat}
            self.fails("NoSeat", fields, "press", 0, "pay", 0, seat, 7)
            self.fails("NoSeat", fields, "press", 0, "hold", 0, 0, seat, -2)
            self.fails("NoSeat", fields, "send", 0, "pay", seat, length=0)
            self.fails("NoSeat", fields, "sweep", "lapse", seat, 0)
            self.fails("NoSeat", fields, "record", seat)
            self.fails("NoSeat", fields, "wrongs", seat)
            self.fails("NoSeat", fields, "situation", seat)

    def test_bad_basket(self):
        self.fails("BadBasket", {}, "press", 0, "hold")
        self.fails("BadBasket", {}, "press", 0, "hold", 1, 1)
        self.fails("BadBasket", {}, "press", 0, "pay", 0, 1, 0)
        self.fails("BadBasket", {}, "send", 0, "pay", length=0)

    def test_not_shown(self):
        self.fails("NotShown", {"seat": 2}, "press", 0, "pay", 2, 0)
        self.fails("NotShown", {"seat": 0}, "send", 0, "pay", 0, length=0)
        self.house.old_answer(0, "my held", "my held", "free")
        self.fails("NotShown", {"seat": 2}, "press", 0, "pay", 0, 2, 1)
        self.fails("NotShown", {"seat": 1}, "press", 0, "hold", 2, 1)
        self.house.press(0, "pay", 1, 0)

    def test_the_page_decides_not_the_seat(self):
        self.house.open_page(7)
        self.house.send(2, "hold", 0)
        self.house.press(0, "hold", 0)
        self.fails("NotShown", {"seat": 0}, "press", 2, "hold", 0)

    def test_bad_words(self):
        for words in [(), ("free",), ("free",) * 4, ("free", "free", "held"), ("", "free", "free"),
                      ("my free", "free", "free"), ("free", "my kept", "free")]:
            self.fails("BadWords", {}, "old_answer", 0, *words)
        self.house.old_answer(0, "others sold", "my sold", "free")

    def test_no_letter(self):
        self.house.press(0, "hold", 0)
        for letter in (1, -1):
            self.fails("NoLetter", {"letter": letter}, "comes", letter, 0)
            self.fails("NoLetter", {"letter": letter}, "lose", letter)
            self.fails("NoLetter", {"letter": letter}, "failed", letter)

    def test_no_answer(self):
        self.house.press(0, "hold", 0)
        for letter in (0, 1, -1):
            self.fails("NoAnswer", {"letter": letter}, "hear", letter)

    def test_bad_length(self):
        self.house.press(0, "hold", 0)
        for length in (0, -5):
            fields = {"length": length}
            self.fails("BadLength", fields, "comes", 0, length)
            self.fails("BadLength", fields, "comes", 0, length=length)
            self.fails("BadLength", fields, "send", 0, "hold", 0, length=length)
            self.fails("BadLength", fields, "sweep", "lapse", 0, length)
            self.fails("BadLength", fields, "tick", length)

    def test_limits_that_are_no_errors(self):
        for _ in range(70):
            self.house.open_page(120)
        self.house.tick(5000)
        self.assertTrue(self.house.send(71, "hold", 0, length=5000))
        self.assertEqual(self.house.record(0), ("held", 120, 1, 1, 10000, (), False))


class Calls(unittest.TestCase):
    """The interface: by position and by name, and where the methods are defined."""

    METHODS = ["open_page", "close_page", "old_answer", "refresh", "press", "comes", "hear", "lose", "send",
               "sweep", "tick", "record", "shown", "failed", "wrongs", "story", "situation", "undo", "twin", "now"]

    def test_each_method_is_defined_in_house_itself(self):
        for name in self.METHODS:
            self.assertIn(name, vars(House))

    def test_by_name(self):
        house = House(book=book_of(HOLD, PAY, "lapse: ? ! free\n"))
        self.assertEqual(house.open_page(visitor=5), 0)
        self.assertEqual(house.refresh(page=0), 0)
        self.assertTrue(house.comes(letter=0, length=2))
        self.assertIsNone(house.hear(letter=0))
        house.refresh(page=0)
        self.assertIsNone(house.lose(letter=1))
        self.assertTrue(house.send(0, "hold", 0, length=2))
        self.assertTrue(house.sweep(name="lapse", seat=0, length=3))
        self.assertIsNone(house.tick(moments=2))
        self.assertEqual(house.record(seat=0), ("free", None, 1, 2, None, (), False))
        self.assertEqual(house.shown(page=0), (("my held", 1, 1),))
        self.assertEqual(house.failed(letter=2), [])
        self.assertEqual(house.wrongs(seat=0), [(9, "taken")])
        self.assertEqual(house.situation(seat=0), ("free", "", "none", ("held",)))
        self.assertIsNone(house.close_page(page=0))
        with self.assertRaises(BadBasket):
            house.open_page(visitor=5)
            house.press(page=1, name="hold")
        with self.assertRaises(BadWords):
            house.old_answer(page=1)
        with self.assertRaises(NotShown):
            house.send(1, "pay", 0)

    def test_lengths_that_are_left_out(self):
        house = House(book_of(HOLD, "on: ? ! time\n"))
        house.open_page(5)
        house.press(0, "hold", 0)
        house.comes(0)
        self.assertEqual(house.record(0)[4], 1)
        house.tick()
        house.sweep("on", 0)
        self.assertEqual(house.record(0)[4], 2)
        self.assertEqual(house.story()[2:], [("comes", 0, 1), ("tick", 1), ("sweep", "on", 0, 1)])

    def test_a_row_may_have_the_name_of_a_state(self):
        house = House(book_of("held: free ? ! take held\n", "free: my held ? ! free\n", states=STATES))
        house.open_page(5)
        self.assertEqual((house.send(0, "held", 0), house.send(0, "free", 0)), (True, True))


if __name__ == "__main__":
    unittest.main()
