"""Pairs: two houses with one seat, one of each of two books, that get the same events.

As long as no event makes a difference, state, who and kept of the two seats are alike,
and so are their turns. Their numbers may be unlike, since "new" may stand in one book
alone; likewise one time may be over in one house alone. The code of a pair is a number:
the base of its spot, and its past in bits. A past has the bit 1, a bit for each state
that was there at smaller turns of both present numbers, and, in two shifts of them,
for each state that was there at turns of the present number of one house alone.
"""

from onehold.books import FREE, is_sweep
from onehold.frames import LETTER_ROLES, Frame, level_of
from onehold.seats import clock_at, done_record, is_shut, sets_until
from onehold.situations import NEW_END, NOW, OWNER, SENDERS, UNTILS

RUNNING = "running"
OVER = "over"
# An outsider who has paid is not the one who sends: any other one does as well, and makes more differences.
PAYERS = {"": (), "owner": (0,), "outsider": (2,)}
# The views by which letters are sent: of the present turn; of the present number in both
# houses, in the first one alone, in the second one alone; older ones. For each, the
# levels that the two rows need.
LEVELS = ((1, 1), (2, 2), (2, 3), (3, 2), (3, 3))
# Which houses do a letter, in the order of the needs.
DONE = ((True, True), (True, False), (False, True))
# What is unlike: done in both with unlike ends, done in one alone, not sent in the second.
ENDS = "ends"
FIRST = "first"
SECOND = "second"
UNSENT = "unsent"


class Couple:
    """A row of the first book, and the row of the second one that has its name and its kind, None if there is none.

    words are those in whose sight both are sent, lone those in whose sight the first
    one alone is; sights and lone_sights have the bits of their states for each role.
    """

    def __init__(self, rows, places, words, lone, sights, lone_sights):
        self.rows = rows
        self.places = places
        self.words = words
        self.lone = lone
        self.sights = sights
        self.lone_sights = lone_sights


class PairSpot:
    """What two seats are, without their pasts; spots has the two spots in the frames of the books.

    parts is (state, clocks, tied, payer): tied tells whether the two times, which run,
    end at the same moment; payer is whose payment is kept, "" if none is. moves has
    (need, move), unlike (need, couple, role, word of what is unlike), overs the bases
    behind the steps of the clock.
    """

    def __init__(self, parts, owned, spots):
        self.parts = parts
        self.owned = owned
        self.spots = spots
        self.moves = None
        self.unlike = []
        self.overs = []


class PairMove:
    """What a couple does in both houses if the role sends it.

    behind is the base of the next spot, None if the seats are shut. rises and sets tell
    for each house whether the number rises and whether a new time is set. who and payer
    are numbers as in SENDERS and PAYERS, or None.
    """

    def __init__(self, couple, role, behind, rises, sets, who, payer):
        self.couple = couple
        self.role = role
        self.behind = behind
        self.rises = rises
        self.sets = sets
        self.who = who
        self.payer = payer


class Pair:
    """The pairs of situations of two books with the same states; they are added as they are met."""

    def __init__(self, first, second):
        self.frames = (Frame(first), Frame(second))
        self.bits = self.frames[0].bits
        self.shift = len(self.bits)
        self.width = 2 << (3 * self.shift)
        self.couples = couples_of(self.frames[0], first[1], second[1])
        self.spots = []
        self.bases = {}
        self.first = self.base_of((FREE, ("", ""), False, ""), False) + 1

    def base_of(self, parts, owned):
        """Return the base of the spot with these parts."""
        key = (parts, owned)
        if key not in self.bases:
            self.bases[key] = len(self.spots) * self.width
            self.spots.append(PairSpot(parts, owned, self.spots_for(parts, owned)))
        return self.bases[key]

    def spots_for(self, parts, owned):
        """Return the tuple of the spots of the two frames."""
        state, clocks, _, payer = parts
        money = "astray" if payer else "none"
        pairs = zip(self.frames, clocks)
        return tuple([frame.spot_at(frame.base_of((state, clock, money), owned)) for frame, clock in pairs])

    def spot_at(self, code):
        """Return the spot of the code; its moves are found."""
        spot = self.spots[code // self.width]
        if spot.moves is None:
            look_at_pair(self, spot)
        return spot

    def past_behind(self, code, rises):
        """Return the past behind a step from there, by which the numbers rise or not."""
        if rises == (True, True):
            return 1
        shift = self.shift
        past = code & (self.width - 1)
        spot = self.spots[code // self.width]
        both = past & ((2 << shift) - 2) | self.bits[spot.parts[0]]
        if rises == (False, False):
            return past | both
        first = past >> shift & ((2 << shift) - 2)
        second = past >> (2 * shift) & ((2 << shift) - 2)
        if rises == (True, False):
            return 1 | (both | second) << (2 * shift)
        return 1 | (both | first) << shift


def couples_of(frame, rows, others):
    """Return the list of the couples; the frame is the first book's."""
    places = {row[0]: place for place, row in enumerate(others)}
    couples = []
    for place, row in enumerate(rows):
        at = places.get(row[0], None)
        if at is not None and is_sweep(others[at]) != is_sweep(row):
            at = None
        other = None if at is None else others[at]
        words = [word for word in row[1] if other is not None and word in other[1]]
        lone = [word for word in row[1] if word not in words]
        sights = [sights_for(frame, row, shown) for shown in (words, lone)]
        couples.append(Couple((row, other), (place, at), words, lone, sights[0], sights[1]))
    return couples


def sights_for(frame, row, shown):
    """Return the dict of the bits of the states in whose sight the roles send the row: those of these words."""
    if is_sweep(row):
        return {"house": 0}
    return {role: sum([frame.views_for(role).get(word, 0) for word in shown]) for role in LETTER_ROLES}


def look_at_pair(pair, spot):
    """Find what the couples, and the clock, do at the spot."""
    spot.moves = []
    for couple in pair.couples:
        for role in couple.sights:
            if spot.owned or role != "owner":
                add_couple(pair, spot, couple, role)
    state, clocks, tied, payer = spot.parts
    for ends in ends_of(clocks, tied):
        spot.overs.append(pair.base_of((state, ends, False, payer), spot.owned))


def ends_of(clocks, tied):
    """Return the list of the clocks behind each step of the clock."""
    if tied:
        return [(OVER, OVER)]
    first = [(OVER, clocks[1])] if clocks[0] == RUNNING else []
    return first + ([(clocks[0], OVER)] if clocks[1] == RUNNING else [])


def add_couple(pair, spot, couple, role):
    """Put what the couple does at the spot, and where it makes a difference, into the spot."""
    levels = levels_at(pair, spot, couple, role)
    if levels == (0, 0):
        return
    both, first, second = needs_of(views_at(pair, spot, couple, role, True), levels)
    _, unsent, _ = needs_of(views_at(pair, spot, couple, role, False), (levels[0], 0))
    for need, word in ((first, FIRST), (second, SECOND), (unsent, UNSENT)):
        if need:
            spot.unlike.append((need, couple, role, word))
    if both:
        move = joint_move(pair, spot, couple, role)
        if move is None:
            spot.unlike.append((both, couple, role, ENDS))
        else:
            spot.moves.append((both, move))


def levels_at(pair, spot, couple, role):
    """Return the levels of the two rows of the couple at the spot, 0 for a row that is not there or lacks something."""
    levels = []
    for frame, own, place in zip(pair.frames, spot.spots, couple.places):
        able = place is not None and place in own.able
        levels.append(level_of(own, role, frame.masks[place]) if able else 0)
    return tuple(levels)


def views_at(pair, spot, couple, role, sent):
    """Return the needs for the views of LEVELS by which the role sends the couple: both rows, or the first alone."""
    if role == "house":
        return (1, 0, 0, 0, 0) if sent else (0, 0, 0, 0, 0)
    sights = couple.sights if sent else couple.lone_sights
    sight = sights[role]
    still = 1 if sight & pair.bits[spot.parts[0]] else 0
    old = 1 if (couple.words if sent else couple.lone) else 0
    return (still, sight, sight << pair.shift, sight << (2 * pair.shift), old)


def needs_of(views, levels):
    """Return three needs: for letters that are done in both houses, in the first one alone, in the second one alone."""
    found = [0, 0, 0]
    for need, least in zip(views, LEVELS):
        done = (levels[0] >= least[0], levels[1] >= least[1])
        if done in DONE:
            at = DONE.index(done)
            found[at] = found[at] | need
    return found


def joint_move(pair, spot, couple, role):
    """Return what the couple does in both houses, None if state, who or kept are unlike behind it."""
    state, clocks, tied, payer = spot.parts
    who = None if state == FREE else OWNER
    kinds = pair.frames[0].kinds
    ahead = [(state, who, 1, 1, UNTILS[clock], PAYERS[payer], False) for clock in clocks]
    behind = [done_record(kinds, row, record, SENDERS[role], NEW_END) for row, record in zip(couple.rows, ahead)]
    if seen_part(behind[0]) != seen_part(behind[1]):
        return None
    rises = tuple([new[2] != old[2] for new, old in zip(behind, ahead)])
    sets = tuple([sets_until(kinds, row[3]) for row in couple.rows])
    who = behind[0][1]
    kept = behind[0][5]
    if is_shut(behind[0]):
        return PairMove(couple, role, None, rises, sets, who, None)
    owned = spot.owned or who is not None
    owner = OWNER if who is None else who
    ends = tuple([clock_at(record, NOW) for record in behind])
    payer = ("owner" if owned and kept[0] == owner else "outsider") if kept else ""
    parts = (behind[0][0], ends, are_tied(ends, sets, tied), payer)
    return PairMove(couple, role, pair.base_of(parts, owned), rises, sets, who, kept[0] if kept else None)


def seen_part(record):
    """Return state, who and kept of the record."""
    return (record[0], record[1], record[5])


def are_tied(clocks, sets, tied):
    """Tell whether the times of the two houses end together behind a step that sets them, or not."""
    return clocks == (RUNNING, RUNNING) and (sets == (True, True) or (tied and sets == (False, False)))
