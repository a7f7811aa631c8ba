"""Books and houses that several tests use, and books made at random."""

from onehold.books import looks_for, read_book
from onehold.houses import House

STATES = "states: held timed, sold sold\n"
HOLD = "hold: free ? at free ! take held\n"
PAY = "pay: my held ? mine ! take sold, keep\n"
# Every row is done in any sight, unless the deed itself needs something.
ALL = "free, my held, others held, my sold, others sold"
OPEN_ROWS = (
    f"hold: {ALL} ? ! take held\n"
    f"buy: {ALL} ? ! take sold\n"
    f"pay: {ALL} ? ! take sold, keep\n"
    f"tip: {ALL} ? ! keep\n"
    f"back: {ALL} ? ! refund\n"
    f"turn: {ALL} ? ! move held\n"
    f"close: {ALL} ? ! move sold\n"
    f"leave: {ALL} ? ! free\n"
    f"longer: {ALL} ? ! time\n"
    f"fresh: {ALL} ? ! new\n"
)


def book_of(*rows, states=STATES):
    """The book of the rows' texts."""
    return read_book(states + "".join(rows))


def house_of(*rows, states=STATES, seats=1):
    """A house of the book of the rows' texts."""
    return House(book_of(*rows, states=states), seats=seats)


def open_house(*visitors, seats=1, more=""):
    """A house whose rows are done nearly always, with a page for each visitor."""
    house = house_of(OPEN_ROWS + more, seats=seats)
    for visitor in visitors:
        house.open_page(visitor)
    return house


def told(house):
    """All that a house tells, by its methods alone."""
    return (house.now, house.story(), tellings(house.record), tellings(house.situation),
            tellings(house.wrongs), tellings(house.shown), tellings(house.failed))


def tellings(method):
    """What the method tells of the numbers from 0 to 79, None where it raises."""
    found = []
    for number in range(80):
        try:
            found.append(method(number))
        except ValueError:
            found.append(None)
    return found


def random_book(rng):
    """A book that check_book lets pass."""
    kinds = [(False, False), (True, False), (False, True)]
    words = rng.sample(["held", "sold", "kept", "apart"], rng.randint(1, 3))
    states = tuple((word, *rng.choice(kinds)) for word in words)
    names = rng.sample(["a", "b", "c", "d", "e", "f"], rng.randint(1, 6))
    return (states, tuple(random_row(rng, states, name) for name in names))


def random_row(rng, states, name):
    """A row of this name that may stand in a book of the states."""
    words = [word for word, _, _ in states]
    views = ["free"] + [f"{whose} {word}" for whose in ("my", "others") for word in words]
    sweep = rng.random() < 0.2
    shown = () if sweep else tuple(rng.sample(views, rng.randint(1, len(views))))
    barred = ("mine", "other", "same", "still") if sweep else ()
    looks = [look for look in looks_for((states, ())) if look not in barred]
    deeds = ["", "free", "time"] + ["move " + word for word in words]
    if not sweep:
        deeds += ["take " + word for word in words] * 2
    deed = rng.choice(deeds)
    marks = [mark for mark in ("new", "refund", "keep")
             if not (mark == "new" and deed == "free") and not (mark == "keep" and sweep)]
    least = 0 if deed else 1
    return (name, shown, tuple(rng.sample(looks, rng.choice([0, 0, 1, 1, 2]))), deed,
            tuple(rng.sample(marks, min(len(marks), rng.choice([least, least, 1, 2])))))


def busy_book(rng, most_states=3, most_rows=6):
    """A book, made at random, whose runs reach much: its first row takes a free seat, its looks are few."""
    kinds = [(False, False), (True, False), (True, False), (False, True)]
    words = rng.sample(["held", "sold", "kept", "apart"], rng.randint(1, most_states))
    states = tuple((word, *rng.choice(kinds)) for word in words)
    views = ["free"] + [f"{whose} {word}" for whose in ("my", "others") for word in words]
    rows = [("hold", ("free",), ("at free",), "take " + words[0], ())]
    for name in rng.sample("abcdefgh", rng.randint(1, most_rows - 1)):
        sweep = rng.random() < 0.2
        shown = () if sweep else tuple(rng.sample(views, rng.randint(1, len(views))))
        looks = [look for look in looks_for((states, ())) if not (sweep and look in ("mine", "other", "same", "still"))]
        deeds = ["free", "time"] + ["move " + word for word in words] * 2
        deed = rng.choice(deeds if sweep else deeds + ["take " + word for word in words] * 3)
        marks = [mark for mark in ("new", "refund", "keep")
                 if not (mark == "new" and deed == "free") and not (mark == "keep" and sweep)]
        rows.append((name, shown, tuple(rng.sample(looks, rng.choice([0, 1, 1, 2]))), deed,
                     tuple(rng.sample(marks, rng.choice([0, 0, 1])))))
    return (states, tuple(rows))
