"""Frames: the spots of a book, and what its rows do there.

A past only tells what pages may still show. So the rows are tried once for each
*spot*, which is a situation without its past, and not for each situation. The
code of a situation is a number: the base of its spot, and its past in bits. A
past has the bit 1 and a bit for each of its states.

The looks of a row are bits of its mask. What a row does at a spot does not hang
on its looks, so that many masks can be tried with one frame.
"""

from onehold.books import FREE, is_sweep, view_word
from onehold.seats import done_record, has_needs, is_shut, kinds_of, seat_facts, spot_of, unmet_looks, wrongs_of
from onehold.situations import FIRST_SITUATION, NEW_END, NOW, SENDERS, check_situation, has_owner, record_for

SHUT_PARTS = ("", "", "shut")
# The bits of the looks at the sender and its view; those of the looks at the seat follow.
MINE = 1
OTHER = 2
SAME = 4
STILL = 8
SENDER_BITS = {"mine": 1, "other": 2, "same": 4, "still": 8}
SWEEP_ROLES = ("house",)
LETTER_ROLES = ("owner", "outsider")
# All bits: a sweep needs no view.
ANY_SIGHT = -1


class Spot:
    """A state, a clock and a money, with an owner of the number or without one.

    barred has the bits of the looks that do not hold there, for each role. able has
    the places of the rows whose deed has what it needs. moves has the moves that were
    asked for, by place and role. over is the base of the spot behind the step of the
    clock, None if there is none.
    """

    def __init__(self, parts, owned, base, bit):
        self.parts = parts
        self.owned = owned
        self.base = base
        self.bit = bit
        self.ahead = None
        self.barred = {}
        self.able = []
        self.moves = {}
        self.over = None


class Move:
    """What a row does at a spot if the role sends it, in whatever sight.

    behind is the base of the next spot; empties tells whether the past is empty
    there, rises whether the number rises. who is who behind it, as in its record.
    found has the wrongs.
    """

    def __init__(self, row, place, role, behind, empties, rises, who, wrongs):
        self.row = row
        self.place = place
        self.role = role
        self.behind = behind
        self.empties = empties
        self.rises = rises
        self.who = who
        self.found = wrongs


class Frame:
    """The spots of a book that is checked; they are added as they are met.

    looks has the bits of the looks of the rows, and of further looks. roles has for each
    row those that send it. views and sights have what views_for and sight_of have told.
    """

    def __init__(self, book, further=()):
        states, rows = book
        self.rows = rows
        self.kinds = kinds_of(states)
        self.words = sorted(list(self.kinds))
        self.bits = {word: 2 << place for place, word in enumerate(self.words)}
        self.width = 2 << len(self.words)
        self.looks = dict(SENDER_BITS)
        for group in [*[row[2] for row in rows], further]:
            for part in group:
                if part not in self.looks:
                    self.looks[part] = 1 << len(self.looks)
        self.seat_looks = [look for look in self.looks if look not in SENDER_BITS]
        self.masks = [sum([self.looks[look] for look in row[2]]) for row in rows]
        self.roles = [SWEEP_ROLES if is_sweep(row) else LETTER_ROLES for row in rows]
        self.views = {}
        self.sights = {}
        self.spots = []
        self.bases = {}
        self.first = self.base_of(FIRST_SITUATION[:3], False) + 1

    def views_for(self, role):
        """Return the dict of the bits of the states, by the words by which the role sees them."""
        if role not in self.views:
            self.views[role] = {view_word(word, role == "owner"): bit for word, bit in self.bits.items()}
        return self.views[role]

    def sight_of(self, place, role):
        """Return the bits of the states in whose sight the role sends the row at this place."""
        key = (place, role)
        if key not in self.sights:
            views = self.views_for(role)
            shown = self.rows[place][1]
            self.sights[key] = sum([views.get(word, 0) for word in shown]) if shown else ANY_SIGHT
        return self.sights[key]

    def base_of(self, parts, owned):
        """Return the base of the spot with these parts."""
        key = (parts, owned)
        if key not in self.bases:
            self.bases[key] = len(self.spots) * self.width
            self.spots.append(Spot(parts, owned, self.bases[key], self.bits.get(parts[0], 0)))
        return self.bases[key]

    def code_of(self, situation):
        """Return the code of the situation, or raise InvalidSituation."""
        check_situation(self.kinds, situation)
        past = sum([self.bits[state] for state in situation[3]])
        return self.base_of(situation[:3], has_owner(situation)) + past + 1

    def situation_at(self, code):
        """Return the situation of the code."""
        past = code & (self.width - 1)
        return self.spots[code // self.width].parts + (self.past_at(past),)

    def past_at(self, past):
        """Return the tuple of the states whose bits the past has."""
        return tuple([word for word in self.words if past & self.bits[word]])

    def spot_at(self, code):
        """Return the spot of the situation, which is looked at for the rows."""
        spot = self.spots[code // self.width]
        if spot.ahead is None and spot.parts != SHUT_PARTS:
            look_at(self, spot)
        return spot


def look_at(frame, spot):
    """Find what the looks are worth at the spot, and where the clock leads."""
    state, clock, money = spot.parts
    spot.ahead = record_for(spot.parts)
    unmet = unmet_looks(frame.seat_looks, seat_facts(spot.ahead, NOW))
    barred = sum([frame.looks[look] for look in unmet])
    senders = barred | MINE | OTHER
    spot.barred["house"] = barred
    spot.barred["owner"] = senders if state == FREE else barred | OTHER
    spot.barred["outsider"] = senders if state == FREE else barred | MINE
    spot.able = [place for place, row in enumerate(frame.rows) if has_needs(row, spot.ahead)]
    if clock == "running":
        spot.over = frame.base_of((state, "over", money), spot.owned)


def level_of(spot, role, mask):
    """Return by how many of the ages, from "still" on, the role can send a row with this mask: 0 to 3."""
    if mask & spot.barred[role]:
        return 0
    if mask & STILL:
        return 1
    return 2 if mask & SAME else 3


def move_at(frame, spot, place, role):
    """Return the move of the row at this place if the role sends it."""
    key = (place, role)
    if key not in spot.moves:
        spot.moves[key] = move_of(frame, spot, place, role)
    return spot.moves[key]


def move_of(frame, spot, place, role):
    """Return a new move."""
    row = frame.rows[place]
    sender = SENDERS[role]
    ahead = spot.ahead
    behind = done_record(frame.kinds, row, ahead, sender, NEW_END)
    wrongs = wrongs_of(frame.kinds, ahead, behind, sender, NOW)
    who = behind[1]
    rises = behind[2] != ahead[2]
    if is_shut(behind):
        return Move(row, place, role, frame.base_of(SHUT_PARTS, True), True, rises, who, wrongs)
    base = frame.base_of(spot_of(behind, NOW), spot.owned or who is not None)
    return Move(row, place, role, base, rises, rises, who, wrongs)
