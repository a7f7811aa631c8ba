"""Random books: prompt verdicts and page tables beside a second reading of [27], and beside runs drawn at random."""

import itertools
import random
import unittest

from onehold.errors import HoldError
from onehold.houses import House
from onehold.pages import fewest_pages, is_page_table, page_table, prompt_verdict
from onehold.situations import after, effect, steps_at
from onehold.verdicts import verdict
from tests.samples import deep_book, small_book
from tests.test_pages import fault_of

FIRST = ("free", "", "none", ())
WRONGS = ("twice", "astray", "unpaid", "taken")


def kept_words(book):
    rows = [row for row in book[1] if "same" in row[2] and "still" not in row[2]]
    return [state for state in ["free"] + [word for word, _, _ in book[0]]
            if any(("free" if state == "free" else "my " + state) in row[1] for row in rows)]


def told_of(word):
    return word.split(" ")[-1]


def is_taken(kept, step):
    return step[1:3] != ("owner", "same") or told_of(step[3]) in kept


def kept_behind(book, pages, situation, kept, step):
    """All that can be kept behind the step, word by word."""
    if step[1] == "clock":
        return [kept]
    if effect(book, situation, step)[2] == "rises" or after(book, situation, step)[0][2] == "shut":
        return [()]
    words = list(kept)
    if step[1:3] == ("owner", "same"):
        words.remove(told_of(step[3]))
    most = pages - 1 if step[1] == "owner" else pages
    words += [situation[0]] * (most if situation[0] in kept_words(book) else 0)
    return {tuple(sorted(chosen)) for size in range(most + 1) for chosen in itertools.combinations(words, size)}


def ways(book, pages, situation, kept):
    """The list of (step, next, wrongs, kept behind it) of the steps that can be taken."""
    return [(step, *after(book, situation, step), kept_behind(book, pages, situation, kept, step))
            for step in steps_at(book, situation) if is_taken(kept, step)]


def reached(book, pages):
    """The least number of steps to each situation with a kept tuple, and to each wrong."""
    least, wrongs, waiting = {(FIRST, ()): 0}, {}, [(FIRST, ())]
    while waiting:
        point = waiting.pop(0)
        for step, behind, found, tuples in ways(book, pages, *point):
            number = least[point] + (step[1] != "clock")
            for wrong in found:
                wrongs[wrong] = min(number, wrongs.get(wrong, number))
            for kept in tuples:
                if number < least.get((behind, kept), 1000):
                    least[behind, kept] = number
                    waiting.append((behind, kept))
    return least, wrongs


def covers(more, less):
    return all(more.count(word) >= less.count(word) for word in less)


def is_plain_table(book, wrong, pages, rows, steps):
    """Point [27], word by word."""
    if (FIRST, (), 0) not in rows:
        return False
    for situation, kept, number in rows:
        for step, behind, found, tuples in ways(book, pages, situation, kept):
            most = number + (step[1] != "clock")
            for other in tuples:
                if not any(row[0] == behind and covers(row[1], other) and row[2] <= most for row in rows):
                    return False
            if wrong in found and (steps is None or number < steps - 1):
                return False
    return True


def spoiled(rng, rows, steps, words):
    """The rows and the steps, with one thing changed."""
    at, change = rng.randrange(len(rows)), rng.randrange(6)
    situation, kept, number = rows[at]
    rest = rows[:at] + rows[at + 1:]
    if change == 0:
        return rest, steps
    if change == 1:
        return rest + [(situation, kept, number + rng.choice([-1, 1]))], steps
    if change == 2:
        return rest + [(situation, kept[1:], number)], steps
    if change == 3:
        return rest + [(situation, tuple(sorted(kept + tuple(words[:1]))), number)], steps
    if change == 4:
        return rows + [rng.choice(rows)], steps
    return rows, rng.choice([None, 1, 2, 3, 4])


def drawn_run(rng, book, pages):
    """A prompt run of three visitors, drawn at random: (wrong, steps done with its own) for each wrong that came."""
    house, visitors, closed = House(book), [], []
    names = [row[0] for row in book[1]]
    words = ["free"] + [f"{whose} {word}" for word, _, _ in book[0] for whose in ("my", "others")]
    found = {}
    for _ in range(40):
        at = [page for page in range(len(visitors)) if page not in closed]
        page, kind = rng.choice(at or [0]), rng.random()
        try:
            if kind < 0.2:
                visitor = rng.randrange(3)
                if [visitors[other] for other in at].count(visitor) < pages:
                    house.open_page(visitor)
                    visitors.append(visitor)
            elif kind < 0.25:
                house.close_page(page)
                closed.append(page)
            elif kind < 0.35:
                house.old_answer(page, rng.choice(words))
            elif kind < 0.4:
                letter = house.refresh(page)
                house.comes(letter)
                house.hear(letter)
            elif kind < 0.5:
                house.tick(rng.randint(1, 3))
            elif kind < 0.6:
                house.sweep(rng.choice(names), 0, rng.randint(1, 3))
            else:
                house.send(page, rng.choice(names), 0, length=rng.randint(1, 3))
        except HoldError:
            pass
        for _, wrong in house.wrongs(0):
            found.setdefault(wrong, house.record(0)[3])
    return found


class Pages(unittest.TestCase):

    def test_verdicts_and_tables(self):
        rng = random.Random(2601)
        for _ in range(60):
            book = rng.choice([small_book, deep_book])(rng)
            for pages in (1, 2, 3):
                least, wrongs = reached(book, pages)
                rows = page_table(book, pages)
                for situation, kept, number in rows:
                    self.assertEqual(least[situation, kept], number)
                for (situation, kept), number in least.items():
                    self.assertTrue(any(row[0] == situation and covers(row[1], kept) and row[2] <= number for row in rows))
                for wrong in WRONGS:
                    told = prompt_verdict(book, wrong, pages)
                    self.assertEqual((told.safe, told.steps), (wrong not in wrongs, wrongs.get(wrong)))
                    if not told.safe:
                        self.assertIsNone(fault_of(book, wrong, pages, told), (book, wrong, pages))
                    self.check_tables(rng, book, wrong, pages, rows, told.steps)

    def check_tables(self, rng, book, wrong, pages, rows, steps):
        self.assertIs(is_page_table(book, wrong, pages, rows, steps), True)
        for _ in range(2):
            others, number = spoiled(rng, rows, steps, kept_words(book))
            self.assertIs(is_page_table(book, wrong, pages, others, number),
                          is_plain_table(book, wrong, pages, others, number), (book, wrong, pages, others, number))

    def test_fewest_pages(self):
        rng = random.Random(2602)
        seen = set()
        for _ in range(250):
            book = rng.choice([small_book, deep_book])(rng)
            for wrong in WRONGS:
                told = [pages for pages in (1, 2, 3) if not prompt_verdict(book, wrong, pages).safe] + [4]
                expected = None if verdict(book, wrong).safe else told[0]
                if not verdict(book, wrong, world="fresh").safe:
                    expected = 0
                self.assertEqual(fewest_pages(book, wrong), expected, (book, wrong))
                if not any("same" in row[2] and "still" not in row[2] for row in book[1]):
                    self.assertIn(expected, (0, 1, None))
                seen.add(expected)
        self.assertGreater(len(seen), 3)

    def test_no_drawn_run_does_better(self):
        rng = random.Random(2603)
        count = 0
        for _ in range(150):
            book, pages = rng.choice([small_book, deep_book])(rng), rng.choice([1, 2, 3])
            least = {wrong: prompt_verdict(book, wrong, pages).steps for wrong in WRONGS}
            for _ in range(8):
                for wrong, steps in drawn_run(rng, book, pages).items():
                    count += 1
                    self.assertIsNotNone(least[wrong], (book, wrong, pages))
                    self.assertGreaterEqual(steps, least[wrong], (book, wrong, pages))
        self.assertGreater(count, 200)


if __name__ == "__main__":
    unittest.main()
