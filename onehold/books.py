"""Books: the states of a seat and the rows by which letters and sweeps are done."""

from onehold.errors import InvalidRow, InvalidStates, InvalidText

FREE = "free"
SENDER_LOOKS = ("mine", "other", "same", "still")
RECORD_LOOKS = ("running", "over", "unpaid", "paid")
MARKS = ("new", "refund", "keep")
MOST_LETTERS = 12


def check_book(book):
    """Return None for a book, or raise InvalidStates or InvalidRow."""
    states, rows = book
    if not states:
        raise InvalidStates(0)
    for index, state in enumerate(states):
        if not is_state(state, words_of(states[:index])):
            raise InvalidStates(index)
    for index, row in enumerate(rows):
        part = wrong_part(states, names_of(rows[:index]), row)
        if part is not None:
            raise InvalidRow(index, part)


def looks_for(book):
    """Return the list of all looks of the book's states, in order."""
    check_book(book)
    return all_looks(book[0])


def show_book(book):
    """Return the text of the book."""
    check_book(book)
    states, rows = book
    lines = [show_states(states)] + [show_row(row) for row in rows]
    return "".join([line + "\n" for line in lines])


def read_book(text):
    """Return the book of the text, or raise InvalidText."""
    *lines, unended = text.split("\n")
    states = read_states(lines[0]) if lines else None
    if states is None:
        raise InvalidText(1)
    rows = []
    for number, line in enumerate(lines[1:], start=2):
        row = read_row(states, names_of(rows), line)
        if row is None:
            raise InvalidText(number)
        rows.append(row)
    if unended:
        raise InvalidText(len(lines) + 1)
    return (states, tuple(rows))


def is_sweep(row):
    """Tell whether the house does the row by itself."""
    return len(row[1]) == 0


def words_of(states):
    """Return the list of the words of the states."""
    return [word for word, timed, sold in states]


def names_of(rows):
    """Return the list of the names of the rows."""
    return [row[0] for row in rows]


def timed_words(states):
    """Return the list of the words of the states in which a hold can run out."""
    return [word for word, timed, sold in states if timed]


def sold_words(states):
    """Return the list of the words of the states in which a seat is sold."""
    return [word for word, timed, sold in states if sold]


def view_word(state, is_who):
    """Return how a visitor sees the state: as who, or as anybody else."""
    if state == FREE:
        return FREE
    return "my " + state if is_who else "others " + state


def view_words(states):
    """Return the list of all view words of the states."""
    words = words_of(states)
    return [FREE] + [view_word(word, is_who) for word in words for is_who in (True, False)]


def all_looks(states):
    """Return the list of all looks of the states, in order."""
    words = [FREE] + words_of(states)
    places = ["at " + word for word in words] + ["not " + word for word in words]
    return places + list(SENDER_LOOKS) + list(RECORD_LOOKS)


def is_name(word):
    """Tell whether the word may be a state's word or a row's name by its letters."""
    return 1 <= len(word) <= MOST_LETTERS and all(["a" <= sign <= "z" for sign in word])


def is_state(state, words):
    """Tell whether the state may stand behind states with these words."""
    word, timed, sold = state
    return is_name(word) and word != FREE and word not in words and not (timed and sold)


def wrong_part(states, names, row):
    """Return the first part that is wrong in a row behind rows with these names, or None."""
    name, shown, looks, deed, marks = row
    if not is_name(name) or name in names:
        return "name"
    if not are_some_of(shown, view_words(states)):
        return "shown"
    if not are_some_of(looks, row_looks(states, is_sweep(row))):
        return "looks"
    if deed not in row_deeds(states, is_sweep(row)):
        return "deed"
    if not are_some_of(marks, row_marks(deed, is_sweep(row))) or not (deed or marks):
        return "marks"
    return None


def are_some_of(parts, choice):
    """Tell whether all the parts are in the choice, none of them twice."""
    return len(set(parts)) == len(parts) and all([part in choice for part in parts])


def row_looks(states, sweep):
    """Return the list of the looks that a row may have."""
    return [look for look in all_looks(states) if not (sweep and look in SENDER_LOOKS)]


def row_deeds(states, sweep):
    """Return the list of the deeds that a row may have."""
    words = words_of(states)
    takes = [] if sweep else ["take " + word for word in words]
    return ["", FREE, "time"] + takes + ["move " + word for word in words]


def row_marks(deed, sweep):
    """Return the list of the marks that may stand beside the deed."""
    barred = ("new" if deed == FREE else "", "keep" if sweep else "")
    return [mark for mark in MARKS if mark not in barred]


def show_states(states):
    """Return the line of the states, without its newline."""
    return "states: " + ", ".join([show_state(state) for state in states])


def show_state(state):
    """Return the state as it stands in a text."""
    word, timed, sold = state
    if timed:
        return word + " timed"
    return word + " sold" if sold else word


def show_row(row):
    """Return the line of the row, without its newline."""
    name, shown, looks, deed, marks = row
    done = [deed] + list(marks) if deed else list(marks)
    return name + ":" + show_list(shown) + " ?" + show_list(looks) + " !" + show_list(done)


def show_list(parts):
    """Return the parts as they stand in a row, behind a blank if there are any."""
    return " " + ", ".join(parts) if parts else ""


def read_states(line):
    """Return the states of the line, or None if no book has this line."""
    parts = [part.partition(" ") for part in line.removeprefix("states: ").split(", ")]
    states = tuple([(word, kind == "timed", kind == "sold") for word, _, kind in parts])
    fits = all([is_state(state, words_of(states[:index])) for index, state in enumerate(states)])
    return states if fits and show_states(states) == line else None


def read_row(states, names, line):
    """Return the row of the line behind rows with these names, or None if no book has it there."""
    name, _, rest = line.partition(":")
    shown, _, rest = rest.partition(" ?")
    looks, _, rest = rest.partition(" !")
    done = read_list(rest)
    deed = done[0] if done and done[0] not in MARKS else ""
    marks = done[1:] if deed else done
    row = (name, read_list(shown), read_list(looks), deed, marks)
    return row if wrong_part(states, names, row) is None and show_row(row) == line else None


def read_list(text):
    """Return the tuple of the parts that stand behind a blank in a row."""
    return tuple(text[1:].split(", ")) if text else ()
