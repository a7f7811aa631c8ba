"""Seats: what one letter or sweep does to the record of one seat.

A sweep has the sender None and needs no view. The kinds of a book tell of each
word of its states, and of "free", what it is for a seat to be in that state.
"""

from onehold.books import FREE, view_word

FIRST_RECORD = ("free", None, 0, 0, None, (), False)
SHUT_SITUATION = ("", "", "shut", ())
WRONGS = ("twice", "astray", "unpaid", "taken")
TIMED = "timed"
SOLD = "sold"
HELD = "held"


def kinds_of(states):
    """Return the dict of the kinds: TIMED, SOLD, HELD for a held state without a time, "" for free."""
    kinds = {FREE: ""}
    for word, timed, sold in states:
        kinds[word] = TIMED if timed else SOLD if sold else HELD
    return kinds


def view_of(record, visitor):
    """Return the view of the seat that the visitor sees."""
    state, who, number, turn, _, _, _ = record
    return (FREE if who is None else view_word(state, who == visitor), number, turn)


def is_shut(record):
    """Tell whether two payments are kept; a shut seat keeps them for ever."""
    return len(record[5]) > 1


def failed_looks(row, record, sender, view, now):
    """Return the list of what keeps the row from being done at the seat."""
    if is_shut(record):
        return ["shut"]
    facts = seat_facts(record, now)
    if view is not None:
        facts = facts + sender_facts(record, sender, view)
    failed = unmet_looks(row[2], facts)
    return failed if has_needs(row, record) else failed + ["deed"]


def unmet_looks(looks, facts):
    """Return the list of the looks that do not hold by the facts."""
    return [look for look in looks if look not in facts and not (look[:4] == "not " and "at " + look[4:] not in facts)]


def seat_facts(record, now):
    """Return the facts of the seat, whoever sends: a look "at W", and those of clock and money, "" for none."""
    return ("at " + record[0], clock_at(record, now), "paid" if record[5] else "unpaid")


def clock_at(record, now):
    """Return whether the time of the seat is "running" or "over", "" if it has none."""
    until = record[4]
    if until is None:
        return ""
    return "over" if now > until else "running"


def sender_facts(record, sender, view):
    """Return the facts of the sender and its view: three looks, or "" instead of one."""
    _, who, number, turn = record[:4]
    place = ""
    if who is not None:
        place = "mine" if who == sender else "other"
    return (place, "same" if view[1] == number else "", "still" if view[2] == turn else "")


def has_needs(row, record):
    """Tell whether the seat has what the deed and the mark "new" of the row need."""
    _, _, _, deed, marks = row
    if deed == "time":
        return record[4] is not None
    if record[0] != FREE or deed[:5] == "take ":
        return True
    return deed == "" and "new" not in marks


def sets_until(kinds, deed):
    """Tell whether the deed gives the seat a new time."""
    _, _, word = deed.partition(" ")
    return deed == "time" or (word != "" and kinds[word] == TIMED)


def done_record(kinds, row, record, sender, end):
    """Return the record behind the step of the row; end is the moment where a new time ends."""
    _, _, _, deed, marks = row
    state, was, number, turn, until, kept, astray = record
    who = was
    verb, _, word = deed.partition(" ")
    if verb == "take":
        state, who = word, sender
    elif verb == "move":
        state = word
    elif verb == FREE:
        state, who = FREE, None
    kind = kinds[state]
    if kind != TIMED:
        until = None
    elif verb != "":
        until = end
    if who is not None and who != was:
        number = number + 1
    elif "new" in marks:
        number = number + 1
    if "refund" in marks:
        kept, astray = (), False
    if "keep" in marks:
        kept = (*kept, sender)
    if kept and not (kind == SOLD and are_all(kept, who)):
        astray = True
    return (state, who, number, turn + 1, until, kept, astray)


def are_all(payers, who):
    """Tell whether each of the payers is who."""
    return payers.count(who) == len(payers)


def wrongs_of(kinds, ahead, behind, sender, now):
    """Return the list of the wrongs of a step from one record to the next, in order."""
    wrongs = []
    if len(behind[5]) > 1:
        wrongs.append("twice")
    if behind[6]:
        wrongs.append("astray")
    if not behind[5] and kinds[behind[0]] == SOLD:
        wrongs.append("unpaid")
    if behind[1] != ahead[1] and is_taken(ahead, sender, now):
        wrongs.append("taken")
    return wrongs


def is_taken(ahead, sender, now):
    """Tell whether somebody else, who ends a hold, takes it from who ahead of its time."""
    who = ahead[1]
    return who is not None and who != sender and clock_at(ahead, now) != "over"


def past_behind(past, ahead, behind):
    """Return the states at smaller turns of the present number, behind a step."""
    if behind[2] != ahead[2]:
        return ()
    return past if ahead[0] in past else tuple(sorted((*past, ahead[0])))


def spot_of(record, now):
    """Return (state, clock, money) of a seat that is not shut."""
    money = "none"
    if record[5]:
        money = "astray" if record[6] else "good"
    return (record[0], clock_at(record, now), money)


def situation_of(record, past, now):
    """Return the situation of a seat with this record and this past."""
    if is_shut(record):
        return SHUT_SITUATION
    return spot_of(record, now) + (past,)
