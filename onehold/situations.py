"""Situations: what can still happen to a seat, and the steps from one situation to the next.

A situation is worked out by a record that stands for it, at the moment 1: its
number and turn are 1, its owner is the visitor 0, the visitor 1 is an outsider.
"""

from onehold.books import FREE, check_book, is_sweep, names_of, sold_words, timed_words, view_word, words_of
from onehold.errors import BadWorld, InvalidSituation, NotDone
from onehold.seats import (
    SHUT_SITUATION,
    done_record,
    failed_looks,
    past_behind,
    sets_until,
    situation_of,
    wrongs_of,
)

CLOCK_STEP = ("", "clock", "", "")
NOW = 1
NEW_END = 2
OWNER = 0
SENDERS = {"owner": 0, "outsider": 1, "house": None}
UNTILS = {"": None, "running": 1, "over": 0}
PAYERS = {"none": (), "good": (0,), "astray": (1,)}
# Only the number and the turn of a view count when a letter comes.
VIEWS = {"still": ("", 1, 1), "same": ("", 1, 0), "old": ("", 0, 0), "": None}
AGES = {"late": ("still", "same", "old"), "fresh": ("still",)}


def steps_at(book, situation, *, world="late"):
    """Yield the steps of the situation, in order."""
    check_book(book)
    check_world(world)
    check_situation(book, situation)
    yield from steps_of(book, situation, world)


def after(book, situation, step):
    """Return (next, wrongs): the situation behind the step and the tuple of its wrongs."""
    check_step(book, situation, step)
    return behind_step(book, situation, step)


def effect(book, situation, step):
    """Return (doer, who, number, time, next, wrongs) of the step."""
    check_step(book, situation, step)
    return effect_of(book, situation, step)


def check_world(world):
    """Raise BadWorld if there is no such world."""
    if world not in AGES:
        raise BadWorld(world)


def check_situation(book, situation):
    """Raise InvalidSituation if the tuple is no situation of the book by its parts."""
    if situation != SHUT_SITUATION and not is_open_situation(book[0], situation):
        raise InvalidSituation()


def check_step(book, situation, step):
    """Raise what after and effect raise."""
    check_book(book)
    check_situation(book, situation)
    if not is_step(book, situation, step):
        raise NotDone()


def is_open_situation(states, situation):
    """Tell whether the tuple is a situation of a seat that is not shut, by its parts."""
    if len(situation) != 4:
        return False
    state, clock, money, past = situation
    if state != FREE and state not in words_of(states):
        return False
    if clock not in (("running", "over") if state in timed_words(states) else ("",)):
        return False
    if money not in ("none", "astray") and not (money == "good" and state in sold_words(states)):
        return False
    return is_past(states, past)


def is_past(states, past):
    """Tell whether the tuple is ascending, without duplicates, of "free" and words."""
    known = [FREE] + words_of(states)
    return all([word in known for word in past]) and past == tuple(sorted(set(past)))


def is_step(book, situation, step):
    """Tell whether the tuple is a step of the situation, which is one of the book."""
    if step == CLOCK_STEP:
        return situation[1] == "running"
    if situation == SHUT_SITUATION or not step or step[0] not in names_of(book[1]):
        return False
    row = row_of(book, step[0])
    return step in list(row_steps(row, situation, "late"))


def steps_of(book, situation, world):
    """Yield the steps of the situation, which is one of the book."""
    if situation == SHUT_SITUATION:
        return
    for row in book[1]:
        yield from row_steps(row, situation, world)
    if situation[1] == "running":
        yield CLOCK_STEP


def row_steps(row, situation, world):
    """Yield the steps of the row at the situation, which is not shut."""
    if is_sweep(row):
        if is_done(row, situation, "house", ""):
            yield (row[0], "house", "", "")
        return
    for role in roles_at(situation):
        for age in AGES[world]:
            for word in done_words(row, situation, role, age):
                yield (row[0], role, age, word)


def roles_at(situation):
    """Return the list of the roles of those who can send a letter."""
    own_words = [word for word in (situation[0], *situation[3]) if word != FREE]
    return ["owner", "outsider"] if own_words else ["outsider"]


def is_done(row, situation, role, age):
    """Tell whether the row is done if it comes from this role, by a view of this age."""
    return not failed_looks(row, record_for(situation), SENDERS[role], VIEWS[age], NOW)


def done_words(row, situation, role, age):
    """Return the list of the shown words of the row in whose sight the role can send it, so that it is done."""
    if not is_done(row, situation, role, age):
        return []
    if age == "old":
        return list(row[1])
    states = [situation[0]] if age == "still" else situation[3]
    seen = [view_word(state, role == "owner") for state in states]
    return [word for word in row[1] if word in seen]


def row_of(book, name):
    """Return the row of this name, which the book has."""
    return book[1][names_of(book[1]).index(name)]


def record_for(situation):
    """Return the record that stands for the situation, which is not shut."""
    state, clock, money, _ = situation
    who = None if state == FREE else OWNER
    return (state, who, 1, 1, UNTILS[clock], PAYERS[money], money == "astray")


def record_behind(book, situation, step):
    """Return the record that stands for the situation behind a letter or a sweep."""
    row = row_of(book, step[0])
    return done_record(book[0], row, record_for(situation), SENDERS[step[1]], NEW_END)


def behind_step(book, situation, step):
    """Return what after returns, for a step that is one of the situation."""
    state, _, money, past = situation
    if step == CLOCK_STEP:
        return ((state, "over", money, past), ())
    ahead = record_for(situation)
    behind = record_behind(book, situation, step)
    wrongs = wrongs_of(book[0], ahead, behind, SENDERS[step[1]], NOW)
    return (situation_of(behind, past_behind(past, ahead, behind), NOW), tuple(wrongs))


def effect_of(book, situation, step):
    """Return what effect returns, for a step that is one of the situation."""
    behind, wrongs = behind_step(book, situation, step)
    if step == CLOCK_STEP:
        return ("others", "same", "same", "same", behind, wrongs)
    ahead = record_for(situation)
    record = record_behind(book, situation, step)
    doer = "holder" if step[1] == "owner" and situation[0] != FREE else "others"
    number = "same" if record[2] == ahead[2] else "rises"
    end = "set" if sets_until(book[0], row_of(book, step[0])[3]) else "same"
    return (doer, who_behind(ahead[1], record[1]), number, end, behind, wrongs)


def who_behind(old, new):
    """Return how who changes from one record to the next."""
    if new == old:
        return "same"
    if new is None:
        return "none"
    return "owner" if new == OWNER else "outsider"
