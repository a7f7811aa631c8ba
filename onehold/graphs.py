"""Graphs: the situations of a book in one world, and the moves between them.

A past only tells what pages may still show. So the rows are tried once for each
*spot*, which is a situation without its past, and not for each situation. The
code of a situation is a number: the base of its spot, and its past in bits. A
past has the bit 1 and a bit for each of its states; a move that needs some bits
can be made where the past has one of them, so the need 1 always holds.
"""

from onehold.books import view_word
from onehold.seats import done_record, is_shut, kinds_of, seat_facts, spot_of, wrongs_of
from onehold.situations import (
    CLOCK_STEP,
    FIRST_SITUATION,
    NEW_END,
    NOW,
    SENDERS,
    WORLDS,
    check_situation,
    has_owner,
    record_for,
    steps_of,
    ways_of,
)

SHUT_PARTS = ("", "", "shut")


class Spot:
    """A state, a clock and a money, with an owner of the number or without one.

    moves has what the rows do there, None until it is asked for. From it, fixed has
    (need, code) for moves behind which the past is empty, onward has (need, base)
    for moves behind which the past has the state, too: dicts of True, since many
    moves do the same. over is the base of the spot behind the step of the clock,
    None if there is none.
    """

    def __init__(self, parts, owned, base, bit):
        self.parts = parts
        self.owned = owned
        self.base = base
        self.bit = bit
        self.moves = None
        self.fixed = {}
        self.onward = {}
        self.over = None


class Move:
    """What all steps of a row by one role do at a spot, if the past has a bit of need.

    behind is the base of the next spot; rises tells whether the past is empty there.
    found has the wrongs.
    """

    def __init__(self, row, role, need, behind, rises, wrongs):
        self.row = row
        self.role = role
        self.need = need
        self.behind = behind
        self.rises = rises
        self.found = wrongs


class Graph:
    """The situations and moves of a book that is checked; spots are added as they are met.

    If alone is True, there is only one visitor.
    """

    def __init__(self, book, world, alone=False):
        states, rows = book
        self.rows = rows
        self.world = world
        self.many_ages = WORLDS[world]
        self.alone = alone
        self.kinds = kinds_of(states)
        self.words = sorted(list(self.kinds))
        self.bits = {word: 2 << place for place, word in enumerate(self.words)}
        self.width = 2 << len(self.words)
        self.spots = []
        self.bases = {}
        self.first = self.code_of(FIRST_SITUATION)

    def base_of(self, parts, owned):
        """Return the base of the spot with these parts."""
        key = (parts, owned)
        if key not in self.bases:
            self.bases[key] = len(self.spots) * self.width
            self.spots.append(Spot(parts, owned, self.bases[key], self.bits.get(parts[0], 0)))
        return self.bases[key]

    def code_of(self, situation):
        """Return the code of the situation, or raise InvalidSituation."""
        check_situation(self.kinds, situation)
        past = sum([self.bits[state] for state in situation[3]])
        return self.base_of(situation[:3], has_owner(situation)) + past + 1

    def situation_at(self, code):
        """Return the situation of the code."""
        past = code & (self.width - 1)
        return self.spots[code // self.width].parts + (self.past_at(past),)

    def past_at(self, past):
        """Return the tuple of the states whose bits the past has."""
        return tuple([word for word in self.words if past & self.bits[word]])

    def spot_at(self, code):
        """Return the spot of the situation; its moves are found."""
        spot = self.spots[code // self.width]
        if spot.moves is None:
            find_moves(self, spot)
        return spot

    def targets(self, code):
        """Return the list of the codes behind the moves from there, some perhaps twice."""
        spot = self.spot_at(code)
        past = code & (self.width - 1)
        behind = past | spot.bit
        found = [target for need, target in spot.fixed if past & need]
        return found + [base + behind for need, base in spot.onward if past & need]

    def over_at(self, code):
        """Return the code behind the step of the clock, None if there is none."""
        spot = self.spot_at(code)
        return None if spot.over is None else spot.over + (code & (self.width - 1))

    def moves_at(self, code):
        """Return the list of (move, target) of the moves from there."""
        spot = self.spot_at(code)
        past = code & (self.width - 1)
        behind = past | spot.bit
        return [(move, move.behind + (1 if move.rises else behind)) for move in spot.moves if past & move.need]


def find_moves(graph, spot):
    """Find what the rows, and the clock, do at the spot."""
    spot.moves = []
    if spot.parts == SHUT_PARTS:
        return
    state, clock, money = spot.parts
    record = record_for(spot.parts)
    facts = seat_facts(record, NOW)
    for row in graph.rows:
        roles, ages = ways_of(row, record, facts)
        for role in roles:
            need = need_of(graph, spot, row, role, ages[:graph.many_ages])
            if need:
                add_move(spot, move_of(graph, spot, row, role, need, record))
    if clock == "running":
        spot.over = graph.base_of((state, "over", money), spot.owned)


def add_move(spot, move):
    """Put the move among those of the spot."""
    spot.moves.append(move)
    if move.rises:
        spot.fixed[(move.need, move.behind + 1)] = True
    else:
        spot.onward[(move.need, move.behind)] = True


def need_of(graph, spot, row, role, ages):
    """Return the bits of which a past has one where the role can send the row by views of these ages."""
    if role == "house":
        return 1
    if not has_role(graph, spot, role):
        return 0
    shown = row[1]
    is_who = role == "owner"
    if "old" in ages or view_word(spot.parts[0], is_who) in shown:
        return 1
    if "same" not in ages:
        return 0
    return sum([graph.bits[word] for word in graph.words if view_word(word, is_who) in shown])


def has_role(graph, spot, role):
    """Tell whether there is somebody with the role: an owner if the number has one, an outsider if one may be."""
    return spot.owned if role == "owner" else not (graph.alone and spot.owned)


def move_of(graph, spot, row, role, need, record):
    """Return the move of the row by the role at the spot for which the record stands."""
    sender = SENDERS[role]
    behind = done_record(graph.kinds, row, record, sender, NEW_END)
    wrongs = wrongs_of(graph.kinds, record, behind, sender, NOW)
    if is_shut(behind):
        return Move(row, role, need, graph.base_of(SHUT_PARTS, True), True, wrongs)
    base = graph.base_of(spot_of(behind, NOW), spot.owned or behind[1] is not None)
    return Move(row, role, need, base, behind[2] != record[2], wrongs)


class Walk:
    """The codes that steps reach from the first situation, in the order of the least number of steps.

    level is the list of those that were reached last, with so many steps. sources
    has the code ahead of each one on a shortest way to it.
    """

    def __init__(self, graph):
        self.graph = graph
        self.steps = 0
        self.level = [graph.first]
        self.least = {graph.first: 0}
        self.sources = {graph.first: None}

    def go_on(self):
        """Go on by one step. The clock goes on behind it, if it can, and is not counted."""
        ahead = list(self.level)
        self.level = []
        self.steps += 1
        for code in ahead:
            for target in self.graph.targets(code):
                if target not in self.least:
                    self.enter(target, code)
                    over = self.graph.over_at(target)
                    if over is not None and over not in self.least:
                        self.enter(over, target)

    def enter(self, code, source):
        """Note that the code is reached from its source."""
        self.least[code] = self.steps
        self.sources[code] = source
        self.level.append(code)

    def codes_to(self, code):
        """Return the list of the codes on a shortest way to the code, which is its last member."""
        codes = []
        while code is not None:
            codes.append(code)
            code = self.sources[code]
        return codes[::-1]


def walked(graph):
    """Return the walk that has reached all there is to reach."""
    walk = Walk(graph)
    while walk.level:
        walk.go_on()
    return walk


def walk_to_wrong(graph, wrong):
    """Return (walk, code): the first code at which a step with the wrong can be done, None if there is none."""
    walk = Walk(graph)
    while walk.level:
        for code in walk.level:
            if has_wrong(graph, code, wrong):
                return (walk, code)
        walk.go_on()
    return (walk, None)


def has_wrong(graph, code, wrong):
    """Tell whether a step with the wrong can be done at the situation of the code."""
    past = code & (graph.width - 1)
    return any([past & move.need and wrong in move.found for move in graph.spot_at(code).moves])


def path_along(graph, codes):
    """Return the list of steps that lead from each of the codes to the next."""
    return [step_between(graph, code, target) for code, target in zip(codes, codes[1:])]


def step_between(graph, code, target):
    """Return a step that leads from the one code to the other."""
    if graph.over_at(code) == target:
        return CLOCK_STEP
    moves = [move for move, behind in graph.moves_at(code) if behind == target]
    return step_of(graph, code, moves[0])


def step_to_wrong(graph, code, wrong):
    """Return a step with the wrong, which is there."""
    moves = [move for move, _ in graph.moves_at(code) if wrong in move.found]
    return step_of(graph, code, moves[0])


def step_of(graph, code, move):
    """Return the first step of the move at the situation of the code."""
    steps = steps_of((move.row,), graph.situation_at(code), graph.world)
    return [step for step in steps if step[1] == move.role][0]
