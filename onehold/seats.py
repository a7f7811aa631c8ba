"""Seats: what one letter or sweep does to the record of one seat.

A sweep has the sender None and needs no view.
"""

from onehold.books import FREE, sold_words, timed_words, view_word

FIRST_RECORD = ("free", None, 0, 0, None, (), False)
SHUT_SITUATION = ("", "", "shut", ())


def view_of(record, visitor):
    """Return the view of the seat that the visitor sees."""
    state, who, number, turn = record[:4]
    return (view_word(state, who == visitor), number, turn)


def is_shut(record):
    """Tell whether two payments are kept; a shut seat keeps them for ever."""
    return len(record[5]) > 1


def is_over(until, now):
    """Tell whether a time has run out; there is none where until is None."""
    return until is not None and now > until


def failed_looks(row, record, sender, view, now):
    """Return the list of what keeps the row from being done at the seat."""
    if is_shut(record):
        return ["shut"]
    failed = [look for look in row[2] if not look_holds(look, record, sender, view, now)]
    return failed if has_needs(row, record) else failed + ["deed"]


def look_holds(look, record, sender, view, now):
    """Tell whether the look holds at the seat."""
    state, who, number, turn, until, kept, _ = record
    place, _, word = look.partition(" ")
    if place == "at":
        return state == word
    if place == "not":
        return state != word
    if look in ("mine", "other"):
        return who is not None and (who == sender) == (look == "mine")
    if look == "same":
        return number == view[1]
    if look == "still":
        return turn == view[2]
    if look in ("running", "over"):
        return until is not None and is_over(until, now) == (look == "over")
    return (len(kept) > 0) == (look == "paid")


def has_needs(row, record):
    """Tell whether the seat has what the deed and the mark "new" of the row need."""
    deed, marks = row[3:]
    if deed == "time":
        return record[4] is not None
    if record[0] != FREE or deed.startswith("take "):
        return True
    return deed == "" and "new" not in marks


def sets_until(states, deed):
    """Tell whether the deed gives the seat a new time."""
    _, _, word = deed.partition(" ")
    return deed == "time" or word in timed_words(states)


def done_record(states, row, record, sender, end):
    """Return the record behind the step of the row; end is the moment where a new time ends."""
    deed, marks = row[3:]
    number, turn, until, kept, astray = record[2:]
    state, who = done_state(deed, record, sender)
    if "refund" in marks:
        kept, astray = (), False
    if "keep" in marks:
        kept = kept + (sender,)
    if sets_until(states, deed):
        until = end
    elif state not in timed_words(states):
        until = None
    if "new" in marks or who not in (None, record[1]):
        number = number + 1
    astray = astray or not are_good(states, state, who, kept)
    return (state, who, number, turn + 1, until, kept, astray)


def done_state(deed, record, sender):
    """Return the state and who behind the deed."""
    state, who = record[:2]
    verb, _, word = deed.partition(" ")
    if verb == "take":
        return (word, sender)
    if verb == "move":
        return (word, who)
    return (FREE, None) if deed == FREE else (state, who)


def are_good(states, state, who, kept):
    """Tell whether all kept payments are good."""
    return all([state in sold_words(states) and payer == who for payer in kept])


def wrongs_of(states, ahead, behind, sender, now):
    """Return the list of the wrongs of a step from one record to the next, in order."""
    wrongs = []
    if is_shut(behind):
        wrongs.append("twice")
    if behind[6]:
        wrongs.append("astray")
    if behind[0] in sold_words(states) and not behind[5]:
        wrongs.append("unpaid")
    if is_taken(ahead, behind, sender, now):
        wrongs.append("taken")
    return wrongs


def is_taken(ahead, behind, sender, now):
    """Tell whether a step of somebody else takes the seat from who, whose time is not over."""
    who = ahead[1]
    return who is not None and not is_over(ahead[4], now) and sender != who and behind[1] != who


def past_behind(past, ahead, behind):
    """Return the states at smaller turns of the present number, behind a step."""
    if behind[2] != ahead[2]:
        return ()
    return tuple(sorted(set(past + (ahead[0],))))


def situation_of(record, past, now):
    """Return the situation of a seat with this record and this past."""
    if is_shut(record):
        return SHUT_SITUATION
    until, kept, astray = record[4:]
    clock = ""
    if until is not None:
        clock = "over" if is_over(until, now) else "running"
    money = "none"
    if kept:
        money = "astray" if astray else "good"
    return (record[0], clock, money, past)
