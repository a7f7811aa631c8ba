"""Random books and runs: houses beside a plain second reading of points [9] and [11], and beside situations."""

import random
import unittest

from onehold.errors import HoldError
from onehold.houses import GuardedHouse, House, play
from onehold.situations import after, effect, steps_at
from tests.samples import random_book, told


class PlainSeat:
    """A second reading of points [9] and [11] for one seat, as a table of named values."""

    def __init__(self, states):
        self.timed = {word: timed for word, timed, _ in states}
        self.sold = {word: sold for word, _, sold in states}
        self.state, self.who, self.number, self.turn = "free", None, 0, 0
        self.until, self.kept, self.astray = None, [], False

    def record(self):
        return (self.state, self.who, self.number, self.turn, self.until, tuple(self.kept), self.astray)

    def lets(self, row, sender, view, now):
        """Is the row done here?"""
        _, _, looks, deed, marks = row
        if len(self.kept) == 2:
            return False
        truths = {
            "mine": self.state != "free" and sender == self.who,
            "other": self.state != "free" and sender != self.who,
            "same": view is not None and view[1] == self.number,
            "still": view is not None and view[2] == self.turn,
            "running": self.timed.get(self.state, False) and now <= (self.until or 0),
            "over": self.timed.get(self.state, False) and now > (self.until or 0),
            "unpaid": self.kept == [], "paid": self.kept != [],
            "at " + self.state: True,
        }
        for look in looks:
            holds = not truths.get("at " + look[4:], False) if look.startswith("not ") else truths.get(look, False)
            if not holds:
                return False
        if self.state == "free" and (deed[:4] in ("move", "free", "time") or "new" in marks and not deed.startswith("take")):
            return False
        return deed != "time" or self.timed.get(self.state, False)

    def do(self, row, sender, now, length):
        """Do the row here, and return its wrongs."""
        deed, marks = row[3], row[4]
        held_on = self.state != "free" and not (self.until is not None and now > self.until)
        old = self.who
        if "refund" in marks:
            self.kept, self.astray = [], False
        if deed.startswith("take "):
            self.state, self.who = deed[5:], sender
        if deed.startswith("move "):
            self.state = deed[5:]
        if deed == "free":
            self.state, self.who = "free", None
        if not self.timed.get(self.state, False):
            self.until = None
        elif deed == "time" or deed[:4] in ("take", "move"):
            self.until = now + length
        self.turn += 1
        self.number += 1 if "new" in marks or (self.who is not None and self.who != old) else 0
        if "keep" in marks:
            self.kept.append(sender)
        sold = self.sold.get(self.state, False)
        for payer in self.kept:
            if not (sold and payer == self.who):
                self.astray = True
        somebody_else = sender is None or sender != old
        wrongs = [("twice", len(self.kept) == 2), ("astray", self.astray), ("unpaid", sold and self.kept == []),
                  ("taken", held_on and somebody_else and self.who != old)]
        return [wrong for wrong, is_there in wrongs if is_there]


def random_deed(rng, house, book, seats):
    """Do one deed at random on the house; some raise errors."""
    page = rng.randrange(5)
    letter = rng.randrange(len(house.story()) + 1)
    row = rng.choice(book[1])
    chosen = rng.sample(range(seats), rng.randint(1, seats))
    words = ["free"] + [f"{whose} {word}" for whose in ("my", "others") for word, _, _ in book[0]]
    deeds = [
        lambda: house.open_page(rng.randrange(3)),
        lambda: house.press(page, row[0], *chosen),
        lambda: house.press(page, row[0], *chosen),
        lambda: house.send(page, row[0], *chosen, length=rng.randint(1, 3)),
        lambda: house.send(page, row[0], *chosen, length=rng.randint(1, 3)),
        lambda: house.comes(letter, rng.randint(1, 3)),
        lambda: house.comes(letter, rng.randint(1, 3)),
        lambda: house.hear(letter),
        lambda: house.lose(letter),
        lambda: house.refresh(page),
        lambda: house.old_answer(page, *[rng.choice(words) for _ in range(seats)]),
        lambda: house.sweep(row[0], chosen[0], rng.randint(1, 3)),
        lambda: house.tick(rng.randint(1, 2)),
        lambda: house.close_page(page) if rng.random() < 0.1 else None,
    ]
    try:
        rng.choice(deeds)()
    except HoldError:
        pass


def random_house(rng, made=House, seats=1, deeds=60):
    """A house in which something has happened."""
    book = random_book(rng)
    house = made(book, seats=seats)
    for visitor in range(3):
        house.open_page(visitor)
    for _ in range(deeds):
        random_deed(rng, house, book, seats)
    return book, house


class Agreement(unittest.TestCase):

    def test_houses_and_the_second_reading(self):
        """Every letter and sweep of a random story does what the plain seats do."""
        rng = random.Random(9)
        for _ in range(150):
            seats = rng.randint(1, 3)
            book, house = random_house(rng, seats=seats)
            self.replay(book, house.story(), seats)

    def replay(self, book, story, seats):
        plain = [PlainSeat(book[0]) for _ in range(seats)]
        rows = {row[0]: row for row in book[1]}
        house = House(book, seats=seats)
        wrongs, letters, visitors = [[] for _ in plain], [], []
        for index, event in enumerate(story):
            done, coming, sender, length, views = None, (), None, 1, [None] * seats
            if event[0] == "open":
                visitors.append(event[1])
            elif event[0] == "refresh":
                letters.append(None)
            elif event[0] == "press":
                letters.append((rows[event[2]], event[3], visitors[event[1]], house.shown(event[1])))
            elif event[0] == "sweep":
                row, coming, length = rows[event[1]], (event[2],), event[3]
            elif event[0] == "comes" and letters[event[1]] is not None:
                row, coming, sender, views = letters[event[1]]
                length = event[2]
            if coming:
                done = all([plain[seat].lets(row, sender, views[seat], house.now) for seat in coming])
            for seat in coming if done else ():
                found = plain[seat].do(row, sender, house.now, length)
                wrongs[seat].extend([(index, wrong) for wrong in found])
            answer = play(house, [event])[0]
            if done is not None:
                self.assertIs(answer, done)
            self.assertEqual([house.record(seat) for seat in range(seats)], [seat.record() for seat in plain])
        self.assertEqual([house.wrongs(seat) for seat in range(seats)], wrongs)

    def test_houses_and_situations(self):
        """Each event leaves a situation as it is, or is one of its steps, with the same wrongs."""
        rng = random.Random(19)
        for _ in range(100):
            book, house = random_house(rng)
            other = House(book)
            for index, event in enumerate(house.story()):
                ahead, record = other.situation(0), other.record(0)
                play(other, [event])
                wrongs = tuple(wrong for at, wrong in other.wrongs(0) if at == index)
                steps = [step for step in steps_at(book, ahead) if fits(step, event, other)]
                if other.record(0) != record:
                    self.assertIn((other.situation(0), wrongs), [after(book, ahead, step) for step in steps])
                elif other.situation(0) != ahead:
                    self.assertEqual(event[0], "tick")
                    self.assertEqual([after(book, ahead, step) for step in steps], [(other.situation(0), ())])

    def test_steps_and_effects(self):
        """Along random steps: the fresh steps are among the late ones, and effect ends as after does."""
        rng = random.Random(29)
        for _ in range(60):
            book = random_book(rng)
            situation = ("free", "", "none", ())
            for _ in range(12):
                steps = list(steps_at(book, situation))
                self.assertEqual(len(set(steps)), len(steps))
                fresh = [step for step in steps if step[2] in ("", "still")]
                self.assertEqual(list(steps_at(book, situation, world="fresh")), fresh)
                for step in steps:
                    self.assertEqual(effect(book, situation, step)[4:], after(book, situation, step))
                if steps:
                    situation = after(book, situation, rng.choice(steps))[0]

    def test_undo_and_twins(self):
        rng = random.Random(39)
        for _ in range(10):
            book, house = random_house(rng, seats=2, deeds=30)
            twin = house.twin()
            self.assertEqual(told(twin), told(house))
            again = House(book, seats=2)
            seen = []
            for event in house.story():
                seen.append(told(again))
                play(again, [event])
            self.assertEqual(told(again), told(house))
            while seen:
                twin.undo()
                self.assertEqual(told(twin), seen.pop())
            self.assertEqual(told(again), told(house))

    def test_guarded_houses_never_have_a_wrong(self):
        rng = random.Random(49)
        for _ in range(60):
            _, house = random_house(rng, made=GuardedHouse, seats=2)
            self.assertEqual(house.wrongs(0) + house.wrongs(1), [])


def fits(step, event, house):
    """Whether the step has the name that the event needs."""
    if event[0] == "tick":
        return step[1] == "clock"
    if event[0] == "sweep":
        return step[:2] == (event[1], "house")
    if event[0] != "comes":
        return False
    presses = [told for told in house.story() if told[0] in ("press", "refresh")]
    sent = presses[event[1]]
    return sent[0] == "press" and step[0] == sent[2]


if __name__ == "__main__":
    unittest.main()
