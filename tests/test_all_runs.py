"""Random books: tables, verdicts, fair sets and roads beside a second reading by steps_at, effect and houses alone."""

import itertools
import random
import unittest

from onehold.errors import HoldError
from onehold.fairness import fair_sets, is_fair_set
from onehold.houses import House, play
from onehold.runs import course, events_of, fewest_visitors, to_answers, to_letters, to_pages, to_two
from onehold.situations import after, effect, steps_at
from onehold.tables import table
from onehold.verdicts import is_run, is_table, let_in, verdict
from tests.samples import busy_book

FIRST = ("free", "", "none", ())
WRONGS = ("twice", "astray", "unpaid", "taken")
WORLDS = ("late", "fresh")


def reached(book, world, lets=lambda situation, step: True):
    """The least number of steps to each situation, and (step, next, wrongs) of those steps that are let."""
    least, steps, waiting = {FIRST: 0}, {}, [FIRST]
    while waiting:
        situation = waiting.pop(0)
        steps[situation] = [(step, *after(book, situation, step))
                            for step in steps_at(book, situation, world=world) if lets(situation, step)]
        for step, behind, _ in steps[situation]:
            number = least[situation] + (step[1] != "clock")
            if number < least.get(behind, 1000):
                least[behind] = number
                waiting.append(behind)
    return least, steps


def has_owner(situation):
    return [word for word in (situation[0], *situation[3]) if word not in ("free", "")] != []


def is_fair(book, members, world):
    """Point [23], word by word."""
    held = [word for word, _, sold in book[0] if not sold]
    if not members or len(set(members)) < len(members) or not all(member[0] in held for member in members):
        return False
    ways, sets = {member: [] for member in members}, False
    for member in members:
        fresh = list(steps_at(book, member, world="fresh"))
        for step in steps_at(book, member):
            _, who, _, time, behind, _ = effect(book, member, step)
            ends = behind[0] not in held or who != "same"
            if step[1] == "house" or step[1:3] == ("outsider", "still"):
                if ends or behind not in members:
                    return False
            if step[1] != "owner" and not ends and behind in members and (world == "late" or step in fresh):
                ways[member].append(behind)
                sets = sets or time == "set"
    for member in members:
        seen, waiting = {member}, [member]
        while waiting:
            for behind in ways[waiting.pop()]:
                if behind not in seen:
                    seen.add(behind)
                    waiting.append(behind)
        if len(seen) < len(members):
            return False
    return sets or any(member[1] != "running" for member in members)


def random_story(rng, book):
    """A house with one seat in which something has happened, by at most twelve letters."""
    house = House(book)
    names = [row[0] for row in book[1]]
    words = ["free"] + [f"{whose} {word}" for word, _, _ in book[0] for whose in ("my", "others")]
    pages = letters = 0
    for _ in range(60):
        page, letter = rng.randrange(pages + 1), rng.randrange(letters + 1)
        press = ("press", page, rng.choice(names), (0,)) if letters < 12 else ("hear", letter)
        event = rng.choice([
            ("open", rng.choice([3, 50, 99])), ("old", page, (rng.choice(words),)), ("tick", rng.randint(1, 3)),
            ("sweep", rng.choice(names), 0, rng.randint(1, 3)), ("hear", letter), ("hear", letter),
            *[("comes", letter, rng.randint(1, 3))] * 3, rng.choice([("lose", letter), ("close", page), ("open", 3)]),
            press, press, press])
        try:
            play(house, [event])
        except HoldError:
            continue
        pages += event[0] == "open"
        letters += event[0] in ("press", "refresh")
    return house


class SecondReading(unittest.TestCase):

    def test_tables_and_verdicts(self):
        rng = random.Random(20)
        for _ in range(60):
            book = busy_book(rng)
            for world in WORLDS:
                least, steps = reached(book, world)
                rows = table(book, world=world)
                self.assertEqual(rows, sorted(least.items()))
                for wrong in WRONGS:
                    found = [least[at] + 1 for at in steps for _, _, wrongs in steps[at] if wrong in wrongs]
                    self.check_verdict(book, wrong, world, rows, min(found, default=None))
                found = [least[member] for members in fair_sets(book, world=world) for member in members]
                self.check_verdict(book, "nobody", world, rows, min(found, default=None))

    def check_verdict(self, book, wrong, world, rows, steps):
        told = verdict(book, wrong, world=world)
        self.assertEqual((told.safe, told.steps), (steps is None, steps))
        self.assertIs(is_table(book, wrong, rows, steps, world=world), True)
        if steps is not None:
            self.assertIs(is_run(book, wrong, told.path, world=world), True)
            self.assertEqual(len([step for step in told.path if step[1] != "clock"]), steps)
            self.assertIs(is_table(book, wrong, rows, steps + 1, world=world), False)
            if wrong == "nobody":
                self.assertIn(told.members, fair_sets(book, world=world))

    def test_tables_that_are_changed(self):
        """A table with a number changed, a row out or in, by the words of point [22]."""
        rng = random.Random(22)
        counts = [0, 0]
        for _ in range(60):
            book, world = busy_book(rng), rng.choice(WORLDS)
            other = [FIRST, ("", "", "shut", ()), ("free", "", "none", ("free",)), ("free", "", "astray", ())]
            for wrong in WRONGS:
                rows = table(book, world=world)
                steps = rng.choice([None, verdict(book, wrong, world=world).steps, 1, 2])
                at = rng.randrange(len(rows))
                change = rng.randrange(4)
                if change < 2:
                    rows[at] = (rows[at][0], rows[at][1] + 2 * change - 1)
                else:
                    rows[at:at + 3 - change] = [(rng.choice(other), rng.randrange(4))] if change == 3 else []
                expected = self.is_plain_table(book, wrong, rows, steps, world)
                self.assertIs(is_table(book, wrong, rows, steps, world=world), expected)
                counts[expected] += 1
        self.assertGreater(min(counts), 20)

    def is_plain_table(self, book, wrong, rows, steps, world):
        numbers = dict(rows)
        if len(numbers) < len(rows) or numbers.get(FIRST) != 0:
            return False
        for situation, number in rows:
            for step in steps_at(book, situation, world=world):
                behind, wrongs = after(book, situation, step)
                if numbers.get(behind, 1000) > number + (step[1] != "clock"):
                    return False
                if wrong in wrongs and (steps is None or number < steps - 1):
                    return False
        return True

    def test_fair_sets(self):
        rng = random.Random(23)
        counts = [0, 0, 0, 0]
        for _ in range(120):
            book = busy_book(rng, 2, 5)
            held = [word for word, _, sold in book[0] if not sold]
            for world in WORLDS:
                members = [situation for situation, _ in table(book, world=world) if situation[0] in held]
                if len(members) > 7:
                    continue
                parts = [part for many in range(1, len(members) + 1) for part in itertools.combinations(members, many)]
                fair = [set(part) for part in parts if is_fair(book, part, world)]
                greatest = [tuple(sorted(part)) for part in fair if not any(part < other for other in fair)]
                self.assertEqual(fair_sets(book, world=world), sorted(greatest))
                counts[min(3, len(greatest))] += 1
                for part in rng.sample(parts, min(10, len(parts))):
                    self.assertIs(is_fair_set(book, list(part), world=world), is_fair(book, part, world))
        self.assertGreater(min(counts[:3]), 10)

    def test_rows_that_are_let_in(self):
        rng = random.Random(24)
        for _ in range(60):
            book = busy_book(rng)
            situations = [situation for situation, _ in table(book) if rng.random() < 0.9]
            for row in book[1]:
                only = (book[0], (row,))
                further = ((row[0] + "x",) + row[1:],)
                for wrong in WRONGS:
                    lets = all([step[1] == "clock" or after(only, at, step)[0] in situations
                                and wrong not in after(only, at, step)[1]
                                for at in situations for step in steps_at(only, at)])
                    self.assertEqual(let_in(book, wrong, situations, further), [row[0] + "x"] if lets else [])

    def test_fewest_visitors(self):
        rng = random.Random(25)
        for _ in range(60):
            book = busy_book(rng)
            _, steps = reached(book, "late", lambda situation, step: step[1] in ("house", "clock")
                               or (step[1] == "owner") == has_owner(situation))
            for wrong in WRONGS:
                alone = any([wrong in wrongs for at in steps for _, _, wrongs in steps[at]])
                together = not verdict(book, wrong).safe
                self.assertEqual(fewest_visitors(book, wrong), 1 if alone else 2 if together else None)

    def test_stories(self):
        """Along random stories: tables, verdicts and roads say of them what happens in them."""
        rng = random.Random(26)
        for _ in range(120):
            book = busy_book(rng)
            house = random_story(rng, book)
            events, least = house.story(), dict(table(book))
            other, turn = House(book), 0
            for event in events:
                play(other, [event])
                self.assertLessEqual(least[other.situation(0)], other.record(0)[3])
            for _, wrong in house.wrongs(0):
                self.assertFalse(verdict(book, wrong).safe)
                if len({event[1] for event in to_letters(book, events) if event[0] == "open"}) == 1:
                    self.assertEqual(fewest_visitors(book, wrong), 1)
            for road in (to_pages, to_letters, to_answers):
                self.assertEqual(course(book, road(book, events)), course(book, events))
            two = House(book)
            play(two, to_two(book, events))
            self.assertEqual(two.situation(0), house.situation(0))
            self.assertEqual([wrong for _, wrong in two.wrongs(0)], [wrong for _, wrong in house.wrongs(0)])

    def test_paths(self):
        """Along random paths: events_of brings them about."""
        rng = random.Random(27)
        for _ in range(120):
            book, world = busy_book(rng), rng.choice(WORLDS)
            path, situation, wrongs = [], FIRST, ()
            for _ in range(rng.randint(1, 30)):
                steps = list(steps_at(book, situation, world=world))
                if steps:
                    path.append(rng.choice(steps))
                    situation, wrongs = after(book, situation, path[-1])
            house = House(book)
            play(house, events_of(book, path))
            self.assertEqual(house.situation(0), situation)
            self.assertEqual(house.record(0)[3], len([step for step in path if step[1] != "clock"]))
            for wrong in WRONGS:
                self.assertIs(is_run(book, wrong, path, world=world), wrong in wrongs)


if __name__ == "__main__":
    unittest.main()
