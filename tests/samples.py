"""Books and houses that several tests use, and books made at random."""

from onehold.books import looks_for, read_book
from onehold.houses import House

STATES = "states: held timed, sold sold\n"
HOLD = "hold: free ? at free ! take held\n"
PAY = "pay: my held ? mine ! take sold, keep\n"
# Every row is done in any sight, unless the deed itself needs something.
ALL = "free, my held, others held, my sold, others sold"
OPEN_ROWS = (
    f"hold: {ALL} ? ! take held\n"
    f"buy: {ALL} ? ! take sold\n"
    f"pay: {ALL} ? ! take sold, keep\n"
    f"tip: {ALL} ? ! keep\n"
    f"back: {ALL} ? ! refund\n"
    f"turn: {ALL} ? ! move held\n"
    f"close: {ALL} ? ! move sold\n"
    f"leave: {ALL} ? ! free\n"
    f"longer: {ALL} ? ! time\n"
    f"fresh: {ALL} ? ! new\n"
)


def book_of(*rows, states=STATES):
    """The book of the rows' texts."""
    return read_book(states + "".join(rows))


def house_of(*rows, states=STATES, seats=1):
    """A house of the book of the rows' texts."""
    return House(book_of(*rows, states=states), seats=seats)


def open_house(*visitors, seats=1, more=""):
    """A house whose rows are done nearly always, with a page for each visitor."""
    house = house_of(OPEN_ROWS + more, seats=seats)
    for visitor in visitors:
        house.open_page(visitor)
    return house


def told(house):
    """All that a house tells, by its methods alone."""
    return (house.now, house.story(), tellings(house.record), tellings(house.situation),
            tellings(house.wrongs), tellings(house.shown), tellings(house.failed))


def tellings(method):
    """What the method tells of the numbers from 0 to 79, None where it raises."""
    found = []
    for number in range(80):
        try:
            found.append(method(number))
        except ValueError:
            found.append(None)
    return found


def random_book(rng):
    """A book that check_book lets pass."""
    kinds = [(False, False), (True, False), (False, True)]
    words = rng.sample(["held", "sold", "kept", "apart"], rng.randint(1, 3))
    states = tuple((word, *rng.choice(kinds)) for word in words)
    names = rng.sample(["a", "b", "c", "d", "e", "f"], rng.randint(1, 6))
    return (states, tuple(random_row(rng, states, name) for name in names))


def random_row(rng, states, name):
    """A row of this name that may stand in a book of the states."""
    words = [word for word, _, _ in states]
    views = ["free"] + [f"{whose} {word}" for whose in ("my", "others") for word in words]
    sweep = rng.random() < 0.2
    shown = () if sweep else tuple(rng.sample(views, rng.randint(1, len(views))))
    barred = ("mine", "other", "same", "still") if sweep else ()
    looks = [look for look in looks_for((states, ())) if look not in barred]
    deeds = ["", "free", "time"] + ["move " + word for word in words]
    if not sweep:
        deeds += ["take " + word for word in words] * 2
    deed = rng.choice(deeds)
    marks = [mark for mark in ("new", "refund", "keep")
             if not (mark == "new" and deed == "free") and not (mark == "keep" and sweep)]
    least = 0 if deed else 1
    return (name, shown, tuple(rng.sample(looks, rng.choice([0, 0, 1, 1, 2]))), deed,
            tuple(rng.sample(marks, min(len(marks), rng.choice([least, least, 1, 2])))))


def busy_book(rng, most_states=3, most_rows=6):
    """A book, made at random, whose runs reach much: its first row takes a free seat, its looks are few."""
    kinds = [(False, False), (True, False), (True, False), (False, True)]
    words = rng.sample(["held", "sold", "kept", "apart"], rng.randint(1, most_states))
    states = tuple((word, *rng.choice(kinds)) for word in words)
    views = ["free"] + [f"{whose} {word}" for whose in ("my", "others") for word in words]
    rows = [("hold", ("free",), ("at free",), "take " + words[0], ())]
    for name in rng.sample("abcdefgh", rng.randint(1, most_rows - 1)):
        sweep = rng.random() < 0.2
        shown = () if sweep else tuple(rng.sample(views, rng.randint(1, len(views))))
        looks = [look for look in looks_for((states, ())) if not (sweep and look in ("mine", "other", "same", "still"))]
        deeds = ["free", "time"] + ["move " + word for word in words] * 2
        deed = rng.choice(deeds if sweep else deeds + ["take " + word for word in words] * 3)
        marks = [mark for mark in ("new", "refund", "keep")
                 if not (mark == "new" and deed == "free") and not (mark == "keep" and sweep)]
        rows.append((name, shown, tuple(rng.sample(looks, rng.choice([0, 1, 1, 2]))), deed,
                     tuple(rng.sample(marks, rng.choice([0, 0, 1])))))
    return (states, tuple(rows))


def small_book(rng):
    """A book of two states and up to five rows, whose runs reach much, with many rows that ask for "same"."""
    states, rows = busy_book(rng, 2, 5)
    views = ["free"] + [f"{whose} {word}" for word, _, _ in states for whose in ("my", "others")]
    changed = []
    for name, shown, looks, deed, marks in rows:
        if shown and name != "hold" and rng.random() < 0.5:
            shown = tuple(rng.sample(views, rng.choice([1, 1, 2])))
            looks = looks + ("same",) * ("same" not in looks and "still" not in looks)
        if deed != "free" and rng.random() < 0.1 and "new" not in marks:
            marks = marks + ("new",)
        if shown and rng.random() < 0.2 and "keep" not in marks:
            marks = marks + ("keep",)
        changed.append((name, shown, looks, deed, marks))
    return (states, tuple(changed))


def deep_book(rng):
    """A book of two states and up to five rows, most of which need an earlier view or a payment, or make one."""
    kinds = [(False, False), (True, False), (False, True)]
    states = tuple((word, *rng.choice(kinds)) for word in ("held", "sold"))
    rows = [("hold", ("free",), ("at free",), rng.choice(["take held", "take sold"]), ())]
    for name in "abcd"[:rng.randint(2, 4)]:
        sweep = rng.random() < 0.1
        shown = () if sweep else tuple(rng.sample(["free", "my held", "my sold", "others held"], rng.choice([1, 1, 1, 2])))
        looks = ("same",) * (not sweep and rng.random() < 0.85)
        if rng.random() < 0.6:
            looks += (rng.choice(["at held", "at sold", "not held", "at free", "unpaid", "paid", "running", "over"]),)
        deed = rng.choice(["free", "time", "move held", "move sold"] + ["", "take held", "take sold"] * (not sweep))
        marks = rng.choice([(), ("refund",)] + [("keep",), ("keep",), ("refund", "keep")] * (not sweep))
        rows.append((name, shown, looks, deed, marks if deed or marks else ("keep",)))
    return (states, tuple(rows))


def changed_book(rng, book):
    """A book with the states of the book, and rows that are a little unlike."""
    states, rows = book
    rows = [list(row) for row in rows]
    for _ in range(rng.choice([1, 1, 2])):
        row = rng.choice(rows)
        looks = [look for look in looks_for((states, ())) if look not in row[2]
                 and (row[1] or look not in ("mine", "other", "same", "still"))]
        kind = rng.random()
        if kind < 0.3:
            row[2] = row[2] + (rng.choice(looks),)
        elif kind < 0.5:
            row[2] = row[2][1:]
        elif kind < 0.7:
            mark = rng.choice(["new", "refund"] + ["keep"] * len(row[1]))
            row[4] = tuple(other for other in row[4] if other != mark) if mark in row[4] else row[4] + (mark,)
        elif kind < 0.85:
            row[3] = rng.choice(["time", "free"] + [verb + word for word, _, _ in states for verb in ("take ", "move ")])
        elif kind < 0.9 and row[1]:
            row[1] = row[1][::-1] + tuple(word for word in ["my " + states[0][0]] if word not in row[1])
        else:
            rng.shuffle(rows)
    other = (tuple(rng.sample(states, len(states))), tuple(tuple(row) for row in rows))
    try:
        looks_for(other)
    except ValueError:
        return changed_book(rng, book)
    return other
