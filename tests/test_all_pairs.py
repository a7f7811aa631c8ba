"""Random books: comparisons beside second readings by steps_at, effect, and by two houses that get the same events."""

import random
import unittest

from onehold.books import view_word
from onehold.compared import buttons, difference, idle_looks, never_more, serial, stand_in
from onehold.houses import House
from onehold.pages import fewest_pages
from onehold.seats import FIRST_RECORD, done_record, failed_looks, kinds_of
from onehold.situations import after, effect, steps_at
from onehold.tables import table
from tests.samples import busy_book, changed_book, deep_book, small_book
from tests.test_compared import differences, outcome, seen

FIRST = ("free", "", "none", ())
VISITORS = (0, 1, 2)
DEPTH = 2


def views_of(book):
    return ["free"] + [f"{whose} {word}" for word, _, _ in book[0] for whose in ("my", "others")]


class Two:
    """Two seats, one of each book, behind the same events, and what pages may show of all turns so far."""

    def __init__(self, now, records, turns):
        self.now, self.records, self.turns = now, records, turns

    def key(self):
        """What matters of it: two of a key do alike."""
        numbers = [record[2] for record in self.records]
        seats = [(record[:2], record[4] and max(-1, record[4] - self.now), record[5]) for record in self.records]
        shown = {(view_word(state, who == visitor), visitor, one == numbers[0], other == numbers[1])
                 for state, who, one, other in self.turns[:-1] for visitor in VISITORS}
        return (tuple(seats), frozenset(shown))

    def letters(self, words):
        """The (visitor, view in the first house, view in the second house) of letters in sight of the words."""
        numbers = [record[2] for record in self.records]
        found = {}
        for visitor in VISITORS:
            for word in words:
                found[visitor, word] = (visitor, (word, -1, -1), (word, -1, -1))
            for turn, (state, who, one, other) in enumerate(self.turns):
                word = view_word(state, who == visitor)
                if word in words:
                    kind = (visitor, word, one == numbers[0], other == numbers[1], turn == len(self.turns) - 1)
                    found[kind] = (visitor, (word, one, turn), (word, other, turn))
        return list(found.values())


def first_unlike(first, second, depth, more):
    """How many steps are ahead of the first difference, None if there is none within the depth.

    With more, only what the first house does and the second one does not do likewise counts.
    """
    rows = {row[0]: row for row in second[1]}
    if not more and ({row[0]: set(row[1]) for row in first[1]} != {name: set(row[1]) for name, row in rows.items()}):
        return 0
    level, seen = [Two(0, (FIRST_RECORD, FIRST_RECORD), (("free", None, 0, 0),))], set()
    for steps in range(depth + 1):
        later = []
        for two in level:
            for moments in (0, 2, 4):
                other = Two(two.now + moments, two.records, two.turns)
                if other.key() not in seen:
                    seen.add(other.key())
                    later.append(other)
        level = []
        for two in later:
            for row in first[1]:
                unlike, behind = tried(two, row, rows.get(row[0]), kinds_of(first[0]), more)
                if unlike:
                    return steps
                level += behind
    return None


def tried(two, row, other, kinds, more):
    """Whether a letter or sweep of the row makes a difference, and the list of what is behind those that make none."""
    behind = []
    for visitor, one, two_view in [(None, None, None)] if not row[1] else two.letters(row[1]):
        done = not failed_looks(row, two.records[0], visitor, one, two.now)
        is_sent = other is not None and (other[1] == () if visitor is None else one[0] in other[1])
        also = is_sent and not failed_looks(other, two.records[1], visitor, two_view, two.now)
        if done != also:
            if done or not more:
                return True, []
        elif done:
            for length in (1, 3, 7):
                new = [done_record(kinds, each, record, visitor, two.now + length)
                       for each, record in zip((row, other), two.records)]
                if (new[0][:2], new[0][5]) != (new[1][:2], new[1][5]):
                    return True, []
                turn = (new[0][0], new[0][1], new[0][2], new[1][2])
                behind.append(Two(two.now, tuple(new), two.turns + (turn,)))
    return False, behind


def drawn_event(rng, book, house):
    """An event that may come next in the house, or raise an error."""
    story = house.story()
    pages = len([event for event in story if event[0] == "open"])
    letters = len([event for event in story if event[0] in ("press", "refresh")])
    page, letter = rng.randrange(pages + 1), rng.randrange(letters + 1)
    name, length = rng.choice(book[1])[0], rng.choice([1, 2, 5])
    return rng.choice([
        ("open", rng.randrange(3)), ("old", page, (rng.choice(views_of(book)),)), ("refresh", page),
        ("press", page, name, (0,)), ("press", page, name, (0,)), ("comes", letter, length), ("comes", letter, length),
        ("hear", letter), ("lose", letter), ("sweep", name, 0, length), ("tick", length), ("close", page),
    ][:11 + (rng.random() < 0.2)])


def drawn_difference(rng, first, second):
    """How many steps are ahead of a difference that events drawn at random make, None if they make none."""
    houses = [House(first), House(second)]
    for _ in range(60):
        event = drawn_event(rng, first, houses[0])
        turn = houses[0].record(0)[3]
        told = [outcome(house, event) for house in houses]
        if told[0] != told[1] or seen(houses[0]) != seen(houses[1]):
            return turn
    return None


class Pairs(unittest.TestCase):

    def test_no_drawn_events_do_better(self):
        rng = random.Random(3103)
        count = 0
        for _ in range(150):
            first = rng.choice([small_book, deep_book])(rng)
            second = changed_book(rng, first)
            least = difference(first, second).steps
            for _ in range(6):
                found = drawn_difference(rng, first, second)
                if found is not None:
                    count += 1
                    self.assertIsNotNone(least, (first, second))
                    self.assertGreaterEqual(found, least, (first, second))
        self.assertGreater(count, 50)

    def test_differences(self):
        rng = random.Random(3101)
        seen = {}
        for _ in range(150):
            first = rng.choice([small_book, deep_book, lambda same: busy_book(same, 2, 4)])(rng)
            second = changed_book(rng, first)
            told = difference(first, second)
            found = first_unlike(first, second, DEPTH, False)
            if told.safe or told.steps > DEPTH:
                self.assertIsNone(found, (first, second))
            else:
                self.assertEqual(found, told.steps, (first, second))
            if not told.safe:
                self.assertEqual(differences(first, second, told.events), [(len(told.events) - 1, told.steps)],
                                 (first, second))
            self.check_never_more(first, second, told.safe)
            seen[told.steps] = True
        self.assertLessEqual({None, 0, 1, 2}, set(seen))

    def check_never_more(self, first, second, alike):
        told = [never_more(first, second), never_more(second, first)]
        for answer, books in zip(told, ((first, second), (second, first))):
            if first_unlike(*books, DEPTH, True) is not None:
                self.assertIs(answer, False, books)
        views = [{row[0]: set(row[1]) for row in book[1]} for book in (first, second)]
        if views[0] == views[1]:
            self.assertIs(alike, told == [True, True], (first, second))

    def test_never_more_is_false_for_a_reason(self):
        rng = random.Random(3102)
        count = 0
        for _ in range(60):
            first = rng.choice([small_book, deep_book])(rng)
            second = changed_book(rng, first)
            if not never_more(first, second) and len(first[1]) < 5:
                found = first_unlike(first, second, 3, True)
                count += found is not None
                self.assertTrue(found is not None or difference(first, second).steps not in (0, 1, 2), (first, second))
        self.assertGreater(count, 5)

    def test_serial(self):
        rng = random.Random(3001)
        for _ in range(80):
            book = rng.choice([small_book, deep_book])(rng)
            told, least = serial(book), None
            for situation, number in table(book, world="fresh"):
                effects = {effect(book, situation, step): step for step in steps_at(book, situation, world="fresh")}
                for step in steps_at(book, situation):
                    other = stand_in(book, situation, step)
                    self.assertIs(other is None, effect(book, situation, step) not in effects)
                    if other is None:
                        least = min(number + 1, least or number + 1)
                    else:
                        self.assertIn(other, list(steps_at(book, situation, world="fresh")))
                        self.assertEqual(effect(book, situation, other), effect(book, situation, step))
            self.assertEqual((told.safe, told.steps), (least is None, least), book)
            if told.safe:
                for wrong in ("twice", "astray", "unpaid", "taken"):
                    self.assertIn(fewest_pages(book, wrong), (0, None))
            else:
                self.check_path(book, told)

    def check_path(self, book, told):
        situation = FIRST
        for step in told.path[:-1]:
            self.assertIn(step, list(steps_at(book, situation, world="fresh")))
            situation, _ = after(book, situation, step)
        self.assertIsNone(stand_in(book, situation, told.path[-1]))
        self.assertEqual(len([step for step in told.path if step[1] != "clock"]), told.steps)

    def test_idle_looks(self):
        rng = random.Random(3201)
        for _ in range(60):
            book = rng.choice([small_book, deep_book])(rng)
            expected = []
            for at, (name, shown, looks, deed, marks) in enumerate(book[1]):
                for look in looks:
                    row = (name, shown, tuple(other for other in looks if other != look), deed, marks)
                    if difference(book, (book[0], book[1][:at] + (row,) + book[1][at + 1:])).safe:
                        expected.append((name, look))
            self.assertEqual(idle_looks(book), expected, book)

    def test_buttons(self):
        rng = random.Random(3202)
        for _ in range(60):
            book = rng.choice([small_book, deep_book])(rng)
            late, fresh = [[(at, list(steps_at(book, at, world=world))) for at, _ in table(book, world=world)]
                           for world in ("late", "fresh")]
            expected = []
            for name, shown, _, _, _ in book[1]:
                for word in shown:
                    is_late = any(step[0] == name and step[3] == word for _, steps in late for step in steps)
                    is_fresh = any((step[0], step[2], step[3]) == (name, "still", word) for _, steps in fresh for step in steps)
                    expected.append((name, word, is_late, is_fresh, self.is_always(late, name, word)))
            self.assertEqual(buttons(book), expected, book)

    def is_always(self, late, name, word):
        for situation, steps in late:
            state, _, money, past = situation
            owned = any(each != "free" for each in (state, *past))
            for role in ("owner",) * owned + ("outsider",):
                if money != "shut" and view_word(state, role == "owner") == word:
                    if (name, role, "still", word) not in steps:
                        return False
        return True


if __name__ == "__main__":
    unittest.main()
