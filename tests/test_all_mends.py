"""Random books: mends beside a second reading by verdicts of the books that they make."""

import itertools
import random
import unittest

from onehold.books import looks_for
from onehold.errors import HasWrong
from onehold.mends import fewest_rows, gentle_looks, least_looks, needless_looks
from onehold.situations import steps_at
from onehold.tables import table
from onehold.verdicts import verdict
from tests.samples import busy_book, deep_book, small_book

ALL = ("twice", "astray", "unpaid", "taken", "nobody")


def holds(look, situation, role):
    """Whether the look holds for a letter of the role with a view of the present state."""
    state, clock, money, _ = situation
    here = {"at " + state, clock, "unpaid" if money == "none" else "paid", "same", "still"}
    if state != "free":
        here.add("mine" if role == "owner" else "other")
    return look in here or (look[:4] == "not " and "at " + look[4:] not in here)


def gentle(book):
    """Point [28], word by word."""
    steps = [(situation, step) for situation, _ in table(book) for step in steps_at(book, situation)
             if step[2] == "still"]
    return [(name, look) for name, shown, looks, _, _ in book[1] if shown for look in looks_for(book)
            if look not in looks and all(holds(look, at, step[1]) for at, step in steps if step[0] == name)]


def with_looks(book, looks):
    return (book[0], tuple((row[0], row[1], row[2] + tuple(look for name, look in looks if name == row[0]), *row[3:])
                           for row in book[1]))


def is_safe(book, wrongs, world="late"):
    return all(verdict(book, wrong, world=world).safe for wrong in wrongs)


def first_of(book, wrongs, looks, most):
    """The first one of the least combinations of the looks that keep the wrongs away."""
    for size in range(most + 1):
        for chosen in itertools.combinations(looks, size):
            if is_safe(with_looks(book, chosen), wrongs):
                return chosen
    return None


def needless(book, wrongs):
    """Point [29], needless_looks, word by word."""
    found, rows = [], [list(row) for row in book[1]]
    for row in rows[::-1]:
        for look in row[2][::-1]:
            looks = row[2]
            row[2] = tuple(other for other in looks if other != look)
            if is_safe((book[0], tuple(map(tuple, rows))), wrongs):
                found.append((row[0], look))
            else:
                row[2] = looks
    return found


def mended_book(rng):
    """A book with looks at random in its rows, perhaps many."""
    book = rng.choice([small_book, deep_book, lambda same: busy_book(same, 2, 5)])(rng)
    looks = [(row[0], look) for row in book[1] for look in looks_for(book)
             if look not in row[2] and (row[1] or look not in ("mine", "other", "same", "still"))]
    return with_looks(book, rng.sample(looks, min(len(looks), rng.choice([0, 1, 2, 4, 8]))))


class Mends(unittest.TestCase):

    def test_gentle_looks(self):
        rng = random.Random(2801)
        for _ in range(80):
            book = mended_book(rng)
            told = gentle_looks(book)
            self.assertEqual(told, gentle(book), book)
            for name in [row[0] for row in book[1] if row[1] and "still" not in row[2]]:
                self.assertIn((name, "still"), told)
            self.check_mended(rng, book, told)

    def check_mended(self, rng, book, looks):
        """Gentle looks bring no wrong, and take no run of the world "fresh" away."""
        other = with_looks(book, rng.sample(looks, min(len(looks), 3)))
        self.assertEqual(table(other, world="fresh"), table(book, world="fresh"))
        for wrong in ALL:
            self.assertLessEqual(verdict(book, wrong).safe, verdict(other, wrong).safe, (book, wrong))
            self.assertEqual(verdict(book, wrong, world="fresh").safe, verdict(other, wrong, world="fresh").safe)
        still = with_looks(book, [(name, look) for name, look in looks if look == "still"])
        self.assertEqual(table(still), table(still, world="fresh"))

    def test_least_looks_and_fewest_rows(self):
        rng = random.Random(2802)
        seen = []
        while len(seen) < 60:
            book = mended_book(rng)
            fresh = [wrong for wrong in ALL if verdict(book, wrong, world="fresh").safe]
            late = [wrong for wrong in fresh if not verdict(book, wrong).safe]
            if late:
                wrongs = (late[0], *[wrong for wrong in fresh if wrong != late[0] and rng.random() < 0.4])
                told = least_looks(book, wrongs)
                self.assertEqual(told, first_of(book, wrongs, gentle(book), 2), (book, wrongs))
                self.assertEqual(least_looks(book, wrongs, most=1), told if told and len(told) == 1 else None)
                self.assertIsNone(least_looks(book, wrongs, most=0))
                looks = [(row[0], "still") for row in book[1] if row[1] and "still" not in row[2]]
                expected = first_of(book, wrongs, looks, len(looks))
                self.assertEqual(fewest_rows(book, wrongs), tuple(name for name, _ in expected), (book, wrongs))
                seen.append((len(told or ()), len(expected)))
        self.assertLessEqual({(1, 1), (2, 2)}, set(seen))

    def test_wrongs_that_no_gentle_looks_keep_away(self):
        rng = random.Random(2803)
        count = 0
        for _ in range(150):
            book = mended_book(rng)
            wrongs = tuple(rng.sample(ALL, rng.choice([1, 2, 5])))
            if is_safe(book, wrongs):
                self.assertEqual((least_looks(book, wrongs), fewest_rows(book, wrongs)), ((), ()))
            elif not is_safe(book, wrongs, "fresh"):
                count += 1
                self.assertEqual((least_looks(book, wrongs), fewest_rows(book, wrongs)), (None, None))
                self.assertFalse(is_safe(with_looks(book, gentle_looks(book)), wrongs))
        self.assertGreater(count, 30)

    def test_needless_looks(self):
        rng = random.Random(2804)
        count = 0
        for _ in range(150):
            book = mended_book(rng)
            wrongs = tuple(rng.sample(ALL, rng.choice([1, 1, 2, 5])))
            has = [wrong for wrong in wrongs if not verdict(book, wrong).safe]
            if has:
                with self.assertRaises(HasWrong) as caught:
                    needless_looks(book, wrongs)
                self.assertEqual(caught.exception.wrong, has[0])
            else:
                count += 1
                self.assertEqual(needless_looks(book, wrongs), needless(book, wrongs), (book, wrongs))
        self.assertGreater(count, 40)


if __name__ == "__main__":
    unittest.main()
