"""Books: the states of a seat and the rows by which letters and sweeps are done."""

from onehold.errors import InvalidRow, InvalidStates, InvalidText

FREE = "free"
SENDER_LOOKS = ("mine", "other", "same", "still")
RECORD_LOOKS = ("running", "over", "unpaid", "paid")
MARKS = ("new", "refund", "keep")
MOST_LETTERS = 12


class Choices:
    """What the rows of a book with these states may show, look at and do: dicts of True.

    Rows are looked at many times, so that a table costs less than a list for each of them.
    """

    def __init__(self, states):
        words = words_of(states)
        self.views = {word: True for word in view_words(states)}
        self.looks = {look: True for look in all_looks(states)}
        self.deeds = {deed: True for deed in ["", FREE, "time"] + ["move " + word for word in words]}
        self.takes = {"take " + word: True for word in words}


def check_book(book):
    """Return None for a book, or raise InvalidStates or InvalidRow."""
    states, rows = book
    if not states:
        raise InvalidStates(0)
    words = {}
    for index, state in enumerate(states):
        if not is_state(state, words):
            raise InvalidStates(index)
        words[state[0]] = True
    check_rows(states, (), rows)


def check_rows(states, rows, further):
    """Raise InvalidRow for the first of the further rows that cannot stand behind the rows."""
    choices = Choices(states)
    names = {row[0]: True for row in rows}
    for index, row in enumerate(further, start=len(rows)):
        part = wrong_part(choices, names, row)
        if part is not None:
            raise InvalidRow(index, part)
        names[row[0]] = True


def looks_for(book):
    """Return the list of all looks of the book's states, in order."""
    check_book(book)
    return all_looks(book[0])


def show_book(book):
    """Return the text of the book."""
    check_book(book)
    states, rows = book
    lines = [show_states(states)] + [show_row(row) for row in rows]
    return "".join([line + "\n" for line in lines])


def read_book(text):
    """Return the book of the text, or raise InvalidText."""
    *lines, unended = text.split("\n")
    states = read_states(lines[0]) if lines else None
    if states is None:
        raise InvalidText(1)
    choices = Choices(states)
    names = {}
    rows = []
    for number, line in enumerate(lines[1:], start=2):
        row = read_row(line)
        if row is None or wrong_part(choices, names, row) is not None:
            raise InvalidText(number)
        names[row[0]] = True
        rows.append(row)
    if unended:
        raise InvalidText(len(lines) + 1)
    return (states, tuple(rows))


def is_sweep(row):
    """Tell whether the house does the row by itself."""
    return len(row[1]) == 0


def words_of(states):
    """Return the list of the words of the states."""
    return [word for word, timed, sold in states]


def view_word(state, is_who):
    """Return how a visitor sees the state: as who, or as anybody else."""
    if state == FREE:
        return FREE
    return "my " + state if is_who else "others " + state


def view_words(states):
    """Return the list of all view words of the states."""
    words = words_of(states)
    return [FREE] + ["my " + word for word in words] + ["others " + word for word in words]


def all_looks(states):
    """Return the list of all looks of the states, in order."""
    words = [FREE] + words_of(states)
    places = ["at " + word for word in words] + ["not " + word for word in words]
    return places + list(SENDER_LOOKS) + list(RECORD_LOOKS)


def is_name(word):
    """Tell whether the word may be a state's word or a row's name by its letters."""
    return len(word) <= MOST_LETTERS and word.isascii() and word.isalpha() and word.islower()


def is_state(state, words):
    """Tell whether the state may stand behind states with these words."""
    word, timed, sold = state
    return is_name(word) and word != FREE and word not in words and not (timed and sold)


def wrong_part(choices, names, row):
    """Return the first part that is wrong in a row behind rows with these names, or None."""
    name, shown, looks, deed, marks = row
    if name in names or not is_name(name):
        return "name"
    if not are_some_of(shown, choices.views):
        return "shown"
    if not are_some_of(looks, choices.looks) or (not shown and asks_sender(looks)):
        return "looks"
    if deed not in choices.deeds and not (shown and deed in choices.takes):
        return "deed"
    if not are_marks(marks, deed, shown):
        return "marks"
    return None


def asks_sender(looks):
    """Tell whether one of the looks is at the sender or at the view that its page showed."""
    return any([look in SENDER_LOOKS for look in looks])


def are_some_of(parts, choice):
    """Tell whether all the parts are in the choice, none of them twice."""
    for part in parts:
        if part not in choice:
            return False
    return len(set(parts)) == len(parts)


def are_marks(marks, deed, shown):
    """Tell whether the marks may stand in a row with this deed and these shown words."""
    if not marks:
        return deed != ""
    if ("new" in marks and deed == FREE) or ("keep" in marks and not shown):
        return False
    return are_some_of(marks, MARKS)


def show_states(states):
    """Return the line of the states, without its newline."""
    return "states: " + ", ".join([show_state(state) for state in states])


def show_state(state):
    """Return the state as it stands in a text."""
    word, timed, sold = state
    if timed:
        return word + " timed"
    return word + " sold" if sold else word


def show_row(row):
    """Return the line of the row, without its newline."""
    name, shown, looks, deed, marks = row
    done = (deed, *marks) if deed else marks
    return name + ":" + show_list(shown) + " ?" + show_list(looks) + " !" + show_list(done)


def show_list(parts):
    """Return the parts as they stand in a row, behind a blank if there are any."""
    return " " + ", ".join(parts) if parts else ""


def read_states(line):
    """Return the states of the line, or None if no book has this line."""
    parts = [part.partition(" ") for part in line.removeprefix("states: ").split(", ")]
    states = tuple([(word, kind == "timed", kind == "sold") for word, _, kind in parts])
    words = {}
    for state in states:
        if not is_state(state, words):
            return None
        words[state[0]] = True
    return states if show_states(states) == line else None


def read_row(line):
    """Return the row of the line, or None if it has not the form of a row; its parts may be wrong."""
    name, _, rest = line.partition(":")
    shown_text, _, rest = rest.partition(" ?")
    looks_text, _, done_text = rest.partition(" !")
    shown, looks, done = read_list(shown_text), read_list(looks_text), read_list(done_text)
    # A line that lacks a sign gives a row that does nothing, which wrong_part finds, as it finds unknown words.
    if None in (shown, looks, done):
        return None
    deed = done[0] if done and done[0] not in MARKS else ""
    return (name, shown, looks, deed, done[1:] if deed else done)


def read_list(text):
    """Return the tuple of the parts that stand behind a blank in a row, or None if the blank is missing."""
    if not text:
        return ()
    return tuple(text[1:].split(", ")) if text[0] == " " else None
