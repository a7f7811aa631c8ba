"""Graphs: the situations that a book leads to in one world, and shortest ways among them.

A move that needs some bits can be made where the past has one of them, so the
need 1 always holds.
"""

from onehold.frames import STILL, Frame, move_at
from onehold.situations import CLOCK_STEP, steps_of

# The bits of "same" and "still".
VIEW_LOOKS = 12


class Node:
    """What can be done at a spot: moves has (need, move).

    From it, fixed has (need, code) for moves behind which the past is empty, onward
    has (need, base) for moves behind which the past has the state, too: dicts of
    True, since many moves do the same.
    """

    def __init__(self, spot):
        self.spot = spot
        self.bit = spot.bit
        self.over = spot.over
        self.moves = []
        self.fixed = {}
        self.onward = {}


class Graph:
    """The moves between situations, with these masks of the rows; nodes are added as they are met.

    If alone is True, there is only one visitor.
    """

    def __init__(self, frame, world, masks, alone=False):
        self.frame = frame
        self.world = world
        # In the world "fresh" each letter is done as if its row had the look "still".
        self.masks = masks if world == "late" else [mask | STILL for mask in masks]
        self.alone = alone
        self.width = frame.width
        self.first = frame.first
        self.nodes = {}

    def node_at(self, code):
        """Return the node of the situation."""
        place = code // self.width
        if place not in self.nodes:
            self.nodes[place] = node_of(self, self.frame.spot_at(code))
        return self.nodes[place]

    def targets(self, code):
        """Return the list of the codes behind the moves from there, some perhaps twice."""
        node = self.node_at(code)
        past = code & (self.width - 1)
        behind = past | node.bit
        found = [target for need, target in node.fixed if past & need]
        return found + [base + behind for need, base in node.onward if past & need]

    def over_at(self, code):
        """Return the code behind the step of the clock, None if there is none."""
        over = self.node_at(code).over
        return None if over is None else over + (code & (self.width - 1))

    def moves_at(self, code):
        """Return the list of (move, target) of the moves from there."""
        node = self.node_at(code)
        past = code & (self.width - 1)
        return [(move, target_of(node.spot, move, past)) for need, move in node.moves if past & need]


def graph_of(book, world):
    """Return the graph of a book that is checked."""
    frame = Frame(book)
    return Graph(frame, world, frame.masks)


def target_of(spot, move, past):
    """Return the code behind the move at the spot with this past."""
    return move.behind + (1 if move.empties else past | spot.bit)


def node_of(graph, spot):
    """Return the node of the spot."""
    node = Node(spot)
    roles = roles_at(spot, graph.alone)
    frame = graph.frame
    for place in spot.able:
        mask = graph.masks[place]
        for role in frame.roles[place]:
            if role in roles and not mask & spot.barred[role]:
                need = need_of(frame, spot, mask, place, role)
                if need:
                    add_move(node, need, move_at(frame, spot, place, role))
    return node


def roles_at(spot, alone):
    """Return the roles that there are: an owner if the number has one, an outsider if one may be, the house."""
    if not spot.owned:
        return ("outsider", "house")
    return ("owner", "house") if alone else ("owner", "outsider", "house")


def need_of(frame, spot, mask, place, role):
    """Return the bits of which a past has one where the role can send the row, as far as the view is asked for."""
    if not mask & VIEW_LOOKS:
        return 1
    sight = frame.sight_of(place, role)
    if sight & spot.bit:
        return 1
    return 0 if mask & STILL else sight


def need_under(frame, spot, mask, place, role):
    """Return the bits of which a past has one where the role can send the row, if it has this mask, at the spot."""
    return 0 if mask & spot.barred[role] else need_of(frame, spot, mask, place, role)


def add_move(node, need, move):
    """Put the move among those of the node."""
    node.moves.append((need, move))
    if move.empties:
        node.fixed[(need, move.behind + 1)] = True
    else:
        node.onward[(need, move.behind)] = True


class Walk:
    """The codes that steps reach from the first situation, in the order of the least number of steps.

    level is the list of those that were reached last, with so many steps. sources
    has the code ahead of each one on a shortest way to it.
    """

    def __init__(self, graph):
        self.graph = graph
        self.steps = 0
        self.level = [graph.first]
        self.least = {graph.first: 0}
        self.sources = {graph.first: None}

    def go_on(self):
        """Go on by one step. The clock goes on behind it, if it can, and is not counted."""
        ahead = list(self.level)
        self.level = []
        self.steps += 1
        for code in ahead:
            for target in self.graph.targets(code):
                if target not in self.least:
                    self.enter(target, code)
                    over = self.graph.over_at(target)
                    if over is not None and over not in self.least:
                        self.enter(over, target)

    def enter(self, code, source):
        """Note that the code is reached from its source."""
        self.least[code] = self.steps
        self.sources[code] = source
        self.level.append(code)

    def codes_to(self, code):
        """Return the list of the codes on a shortest way to the code, which is its last member."""
        codes = []
        while code is not None:
            codes.append(code)
            code = self.sources[code]
        return codes[::-1]


def walked(graph):
    """Return the walk that has reached all there is to reach."""
    walk = Walk(graph)
    while walk.level:
        walk.go_on()
    return walk


def walk_to_wrong(graph, wrongs):
    """Return (walk, code): the first code at which a step with one of the wrongs can be done, None if there is none."""
    walk = Walk(graph)
    while walk.level:
        for code in walk.level:
            if has_wrong(graph, code, wrongs):
                return (walk, code)
        walk.go_on()
    return (walk, None)


def has_wrong(graph, code, wrongs):
    """Tell whether a step with one of the wrongs can be done at the situation of the code."""
    past = code & (graph.width - 1)
    for need, move in graph.node_at(code).moves:
        if move.found and past & need and any([wrong in wrongs for wrong in move.found]):
            return True
    return False


def path_along(graph, codes):
    """Return the list of steps that lead from each of the codes to the next."""
    return [step_between(graph, code, target) for code, target in zip(codes, codes[1:])]


def step_between(graph, code, target):
    """Return a step that leads from the one code to the other."""
    if graph.over_at(code) == target:
        return CLOCK_STEP
    moves = [move for move, behind in graph.moves_at(code) if behind == target]
    return step_of(graph, code, moves[0])


def step_to_wrong(graph, code, wrong):
    """Return a step with the wrong, which is there."""
    moves = [move for move, _ in graph.moves_at(code) if wrong in move.found]
    return step_of(graph, code, moves[0])


def step_of(graph, code, move):
    """Return the first step of the move at the situation of the code."""
    steps = steps_of((move.row,), graph.frame.situation_at(code), graph.world)
    return [step for step in steps if step[1] == move.role][0]
