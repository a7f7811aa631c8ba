"""Situations: what can still happen to a seat, and the steps from one situation to the next.

A situation is worked out by a record that stands for it, at the moment 1: its
number and turn are 1, its owner is the visitor 0, the visitor 1 is an outsider.
"""

from onehold.books import FREE, SENDER_LOOKS, check_book, view_word
from onehold.errors import BadWorld, InvalidSituation, NotDone
from onehold.seats import (
    SHUT_SITUATION,
    SOLD,
    TIMED,
    done_record,
    has_needs,
    kinds_of,
    past_behind,
    seat_facts,
    sets_until,
    situation_of,
    unmet_looks,
    wrongs_of,
)

FIRST_SITUATION = ("free", "", "none", ())
CLOCK_STEP = ("", "clock", "", "")
NOW = 1
NEW_END = 2
OWNER = 0
SENDERS = {"owner": 0, "outsider": 1, "house": None}
UNTILS = {"": None, "running": 1, "over": 0}
PAYERS = {"none": (), "good": (0,), "astray": (1,)}
AGES = ("still", "same", "old")
WORLDS = {"late": 3, "fresh": 1}
NO_WAYS = ((), ())
HOUSE_WAYS = (("house",), ())


def steps_at(book, situation, *, world="late"):
    """Yield the steps of the situation, in order."""
    check_book(book)
    check_world(world)
    check_situation(kinds_of(book[0]), situation)
    yield from steps_of(book[1], situation, world)


def after(book, situation, step):
    """Return (next, wrongs): the situation behind the step and the tuple of its wrongs."""
    kinds = checked_kinds(book, situation, step)
    return behind_step(kinds, book[1], situation, step)


def effect(book, situation, step):
    """Return (doer, who, number, time, next, wrongs) of the step."""
    kinds = checked_kinds(book, situation, step)
    return effect_of(kinds, book[1], situation, step)


def checked_kinds(book, situation, step):
    """Return the kinds of the book, or raise what after and effect raise."""
    check_book(book)
    kinds = kinds_of(book[0])
    check_situation(kinds, situation)
    if not is_step(book[1], situation, step, "late"):
        raise NotDone()
    return kinds


def check_world(world):
    """Raise BadWorld if there is no such world."""
    if world not in WORLDS:
        raise BadWorld(world)


def check_situation(kinds, situation):
    """Raise InvalidSituation if the tuple is no situation of the book by its parts."""
    if situation != SHUT_SITUATION and not is_open_situation(kinds, situation):
        raise InvalidSituation()


def is_open_situation(kinds, situation):
    """Tell whether the tuple is a situation of a seat that is not shut, by its parts."""
    if len(situation) != 4:
        return False
    state, clock, money, past = situation
    if state not in kinds:
        return False
    if clock not in (("running", "over") if kinds[state] == TIMED else ("",)):
        return False
    if money not in ("none", "astray") and not (money == "good" and kinds[state] == SOLD):
        return False
    return is_past(kinds, past)


def is_past(kinds, past):
    """Tell whether the tuple is ascending, without duplicates, of "free" and words."""
    return past == () or (all([word in kinds for word in past]) and past == tuple(sorted(set(past))))


def is_step(rows, situation, step, world):
    """Tell whether the tuple is a step of the situation, which is one of the book."""
    named = [row for row in rows if step and row[0] == step[0]]
    return step in steps_of(named, situation, world)


def steps_of(rows, situation, world):
    """Return the list of the steps of the rows at the situation, and of the clock."""
    if situation == SHUT_SITUATION:
        return []
    record = record_for(situation[:3])
    facts = seat_facts(record, NOW)
    owned = has_owner(situation)
    steps = []
    for row in rows:
        roles, ages = ways_of(row, record, facts)
        for role in roles:
            if owned or role != "owner":
                steps.extend(role_steps(row, situation, role, ages[:WORLDS[world]]))
    if situation[1] == "running":
        steps.append(CLOCK_STEP)
    return steps


def has_owner(situation):
    """Tell whether the present number of the seat has an owner."""
    state, _, _, past = situation
    return state != FREE or past not in ((), (FREE,))


def ways_of(row, record, facts):
    """Return (roles, ages): by whom, and by views of what ages, the row is done at a seat with these facts.

    A seat that is free may have no owner; that is not looked at here.
    """
    unmet = unmet_looks(row[2], facts)
    for look in unmet:
        if look not in SENDER_LOOKS:
            return NO_WAYS
    if not has_needs(row, record):
        return NO_WAYS
    if not row[1]:
        return HOUSE_WAYS
    if not unmet:
        return (("owner", "outsider"), AGES)
    return (roles_for(unmet, record), ages_for(unmet))


def ages_for(looks):
    """Return the tuple of the ages of views for which the looks "same" and "still" among these hold."""
    if "still" in looks:
        return AGES[:1]
    return AGES[:2] if "same" in looks else AGES


def roles_for(looks, record):
    """Return the tuple of the roles for which the looks "mine" and "other" among these hold."""
    barred = ("outsider" if "mine" in looks else "", "owner" if "other" in looks else "")
    if record[0] == FREE and barred != ("", ""):
        return ()
    return tuple([role for role in ("owner", "outsider") if role not in barred])


def role_steps(row, situation, role, ages):
    """Return the list of the steps of the row by this role, by views of these ages."""
    name, shown = row[:2]
    if role == "house":
        return [(name, "house", "", "")]
    is_who = role == "owner"
    seen = view_word(situation[0], is_who)
    steps = [(name, role, "still", word) for word in shown if word == seen]
    if "same" in ages:
        earlier = [view_word(state, is_who) for state in situation[3]]
        steps.extend([(name, role, "same", word) for word in shown if word in earlier])
    if "old" in ages:
        steps.extend([(name, role, "old", word) for word in shown])
    return steps


def row_named(rows, name):
    """Return the row of this name, which is among the rows."""
    return [row for row in rows if row[0] == name][0]


def record_for(spot):
    """Return the record that stands for all situations with this (state, clock, money)."""
    state, clock, money = spot
    who = None if state == FREE else OWNER
    return (state, who, 1, 1, UNTILS[clock], PAYERS[money], money == "astray")


def behind_step(kinds, rows, situation, step):
    """Return what after returns, for a step that is one of the situation."""
    state, _, money, past = situation
    name, role, _, _ = step
    if step == CLOCK_STEP:
        return ((state, "over", money, past), ())
    ahead = record_for(situation[:3])
    behind = done_record(kinds, row_named(rows, name), ahead, SENDERS[role], NEW_END)
    wrongs = wrongs_of(kinds, ahead, behind, SENDERS[role], NOW)
    return (situation_of(behind, past_behind(past, ahead, behind), NOW), tuple(wrongs))


def effect_of(kinds, rows, situation, step):
    """Return what effect returns, for a step that is one of the situation."""
    behind, wrongs = behind_step(kinds, rows, situation, step)
    if step == CLOCK_STEP:
        return ("others", "same", "same", "same", behind, wrongs)
    row = row_named(rows, step[0])
    ahead = record_for(situation[:3])
    record = done_record(kinds, row, ahead, SENDERS[step[1]], NEW_END)
    doer = "holder" if step[1] == "owner" and situation[0] != FREE else "others"
    number = "same" if record[2] == ahead[2] else "rises"
    end = "set" if sets_until(kinds, row[3]) else "same"
    return (doer, who_behind(ahead[1], record[1]), number, end, behind, wrongs)


def who_behind(old, new):
    """Return how who changes from one record to the next."""
    if new == old:
        return "same"
    if new is None:
        return "none"
    return "owner" if new == OWNER else "outsider"
