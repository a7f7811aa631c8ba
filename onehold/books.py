"""Books: the states of a seat and the rows by which letters and sweeps are done."""

from onehold.errors import InvalidRow, InvalidStates, InvalidText

FREE = "free"
SENDER_LOOKS = ("mine", "other", "same", "still")
RECORD_LOOKS = ("running", "over", "unpaid", "paid")
# The looks that the rows of all books may have.
COMMON_LOOKS = {
    "at free": True,
    "not free": True,
    "mine": True,
    "other": True,
    "same": True,
    "still": True,
    "running": True,
    "over": True,
    "unpaid": True,
    "paid": True,
}
MARKS = ("new", "refund", "keep")
# The tuples of marks, none twice, in all orders, with their texts behind a deed; and the other way round.
MARK_TEXTS = {
    (): "",
    ("new",): ", new",
    ("refund",): ", refund",
    ("keep",): ", keep",
    ("new", "refund"): ", new, refund",
    ("new", "keep"): ", new, keep",
    ("refund", "new"): ", refund, new",
    ("refund", "keep"): ", refund, keep",
    ("keep", "new"): ", keep, new",
    ("keep", "refund"): ", keep, refund",
    ("new", "refund", "keep"): ", new, refund, keep",
    ("new", "keep", "refund"): ", new, keep, refund",
    ("refund", "new", "keep"): ", refund, new, keep",
    ("refund", "keep", "new"): ", refund, keep, new",
    ("keep", "new", "refund"): ", keep, new, refund",
    ("keep", "refund", "new"): ", keep, refund, new",
}
TEXT_MARKS = {
    "": (),
    ", new": ("new",),
    ", refund": ("refund",),
    ", keep": ("keep",),
    ", new, refund": ("new", "refund"),
    ", new, keep": ("new", "keep"),
    ", refund, new": ("refund", "new"),
    ", refund, keep": ("refund", "keep"),
    ", keep, new": ("keep", "new"),
    ", keep, refund": ("keep", "refund"),
    ", new, refund, keep": ("new", "refund", "keep"),
    ", new, keep, refund": ("new", "keep", "refund"),
    ", refund, new, keep": ("refund", "new", "keep"),
    ", refund, keep, new": ("refund", "keep", "new"),
    ", keep, new, refund": ("keep", "new", "refund"),
    ", keep, refund, new": ("keep", "refund", "new"),
}
MOST_LETTERS = 12


class Choices:
    """What the rows of a book with these states may show, look at and do: dicts of True.

    Rows are looked at many times, so that a table costs less than a list for each of them.
    takes are the deeds that a sweep cannot have.
    """

    def __init__(self, states):
        views = {FREE: True}
        looks = dict(COMMON_LOOKS)
        deeds = {"": True, FREE: True, "time": True}
        takes = {}
        for word, _, _ in states:
            views["my " + word] = views["others " + word] = True
            looks["at " + word] = looks["not " + word] = True
            deeds["move " + word] = takes["take " + word] = True
        self.views = views
        self.looks = looks
        self.deeds = deeds
        self.takes = takes


def check_book(book):
    """Return None for a book, or raise InvalidStates or InvalidRow."""
    states, rows = book
    if not states:
        raise InvalidStates(0)
    words = {}
    for index, state in enumerate(states):
        if not is_state(state, words):
            raise InvalidStates(index)
        words[state[0]] = True
    check_rows(states, (), rows)


def check_rows(states, rows, further):
    """Raise InvalidRow for the first of the further rows that cannot stand behind the rows."""
    choices = Choices(states)
    names = {row[0]: True for row in rows}
    for index, row in enumerate(further, start=len(rows)):
        part = wrong_part(choices, names, row)
        if part is not None:
            raise InvalidRow(index, part)
        names[row[0]] = True


def looks_for(book):
    """Return the list of all looks of the book's states, in order."""
    check_book(book)
    return all_looks(book[0])


def show_book(book):
    """Return the text of the book."""
    check_book(book)
    states, rows = book
    return "\n".join([show_states(states), *[show_row(row) for row in rows], ""])


def read_book(text):
    """Return the book of the text, or raise InvalidText."""
    *lines, unended = text.split("\n")
    states = read_states(lines[0]) if lines else None
    if states is None:
        raise InvalidText(1)
    rows = read_rows(Choices(states), lines)
    if unended:
        raise InvalidText(len(lines) + 1)
    return (states, tuple(rows))


def is_sweep(row):
    """Tell whether the house does the row by itself."""
    return len(row[1]) == 0


def words_of(states):
    """Return the list of the words of the states."""
    return [word for word, timed, sold in states]


def view_word(state, is_who):
    """Return how a visitor sees the state: as who, or as anybody else."""
    if state == FREE:
        return FREE
    return "my " + state if is_who else "others " + state


def view_words(states):
    """Return the list of all view words of the states."""
    words = words_of(states)
    return [FREE] + ["my " + word for word in words] + ["others " + word for word in words]


def all_looks(states):
    """Return the list of all looks of the states, in order."""
    words = [FREE] + words_of(states)
    places = ["at " + word for word in words] + ["not " + word for word in words]
    return places + list(SENDER_LOOKS) + list(RECORD_LOOKS)


def is_name(word):
    """Tell whether the word may be a state's word or a row's name by its letters."""
    return len(word) <= MOST_LETTERS and word.isascii() and word.isalpha() and word.islower()


def is_state(state, words):
    """Tell whether the state may stand behind states with these words."""
    word, timed, sold = state
    return is_name(word) and word != FREE and word not in words and not (timed and sold)


def wrong_part(choices, names, row):
    """Return the first part that is wrong in a row behind rows with these names, or None."""
    name, shown, looks, deed, marks = row
    if name in names or not is_name(name):
        return "name"
    # A part that is unknown, or there twice, makes the set smaller than the tuple.
    if len({word for word in shown if word in choices.views}) < len(shown):
        return "shown"
    if len({look for look in looks if look in choices.looks}) < len(looks) or (not shown and asks_sender(looks)):
        return "looks"
    if deed not in choices.deeds and not (shown and deed in choices.takes):
        return "deed"
    if marks not in MARK_TEXTS or (deed == FREE and "new" in marks) or (not shown and "keep" in marks):
        return "marks"
    return None if marks or deed else "marks"


def asks_sender(looks):
    """Tell whether one of the looks is at the sender or at the view that its page showed."""
    return any([look in SENDER_LOOKS for look in looks])


def show_states(states):
    """Return the line of the states, without its newline."""
    return "states: " + ", ".join([show_state(state) for state in states])


def show_state(state):
    """Return the state as it stands in a text."""
    word, timed, sold = state
    if timed:
        return word + " timed"
    return word + " sold" if sold else word


def show_row(row):
    """Return the line of the row, without its newline."""
    name, shown, looks, deed, marks = row
    words = " " + ", ".join(shown) if shown else ""
    asked = " " + ", ".join(looks) if looks else ""
    done = MARK_TEXTS[marks]
    return f"{name}:{words} ?{asked} ! {deed}{done}" if deed else f"{name}:{words} ?{asked} !{done[1:]}"


def read_states(line):
    """Return the states of the line, or None if no book has this line."""
    lead, _, rest = line.partition(" ")
    words = {}
    states = []
    for part in rest.split(", "):
        word, blank, kind = part.partition(" ")
        state = (word, kind == "timed", kind == "sold")
        if lead != "states:" or not is_state(state, words) or show_state(state) != part:
            return None
        words[word] = True
        states.append(state)
    return tuple(states)


def read_rows(choices, lines):
    """Return the list of the rows of the lines behind the first one, or raise InvalidText."""
    names = {}
    rows = []
    for number, line in enumerate(lines[1:], start=2):
        name, _, rest = line.partition(":")
        seen, _, rest = rest.partition(" ?")
        asked, _, done = rest.partition(" ! ")
        lead, _, words = seen.partition(" ")
        other_lead, _, more = asked.partition(" ")
        shown = tuple(words.split(", ")) if seen else ()
        looks = tuple(more.split(", ")) if asked else ()
        deed, comma, marks = done.partition(", ")
        if deed in MARKS:
            row = (name, shown, looks, "", TEXT_MARKS.get(", " + done, None))
        else:
            row = (name, shown, looks, deed, TEXT_MARKS.get(comma + marks, None))
        # A line that lacks one of the signs has no deed here, and nothing in the place of marks.
        if lead or other_lead or not deed or wrong_part(choices, names, row) is not None:
            raise InvalidText(number)
        names[name] = True
        rows.append(row)
    return rows
