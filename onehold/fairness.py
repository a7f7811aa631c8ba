"""Fairness: sets of situations in which a hold can stay for ever although its holder sends nothing."""

from onehold.books import check_book, view_word
from onehold.graphs import graph_of, target_of, walked
from onehold.seats import HELD, TIMED, sets_until
from onehold.situations import check_world


def is_fair_set(book, situations, *, world="late"):
    """Tell whether the list of situations is a fair set of the world."""
    check_book(book)
    check_world(world)
    graph = graph_of(book, world)
    codes = [graph.frame.code_of(situation) for situation in situations]
    found = greatest_sets(graph, codes)
    # A fair set is the greatest one among its own members; a member that is there twice is found once.
    return len(found) == 1 and len(found[0]) == len(codes)


def fair_sets(book, *, world="late"):
    """Return the list of the greatest fair sets in the table of the world, ascending."""
    check_book(book)
    check_world(world)
    graph = graph_of(book, world)
    return sorted([members_of(graph, codes) for codes in greatest_sets(graph, list(walked(graph).least))])


def members_of(graph, codes):
    """Return the ascending tuple of the situations of the codes."""
    return tuple(sorted([graph.frame.situation_at(code) for code in codes]))


class Rest:
    """What others than the holder do at a situation: the codes behind their steps that do not end the hold.

    helped has those behind helper steps, timed those behind steps that set a new
    time, reached all of them, and the one behind the step of the clock.
    """

    def __init__(self, helped, timed, reached):
        self.helped = helped
        self.timed = timed
        self.reached = reached


def greatest_sets(graph, codes):
    """Return the list of the greatest fair sets of these codes, each one a list of codes."""
    rests = rests_of(graph, codes)
    found = []
    waiting = [list(rests)]
    while waiting:
        part = closed_part(rests, waiting.pop())
        for knot in knots_of(rests, part):
            kept = helped_inside(rests, knot)
            if len(kept) < len(knot):
                waiting.append(kept)
            elif can_time_go_on(graph, rests, knot):
                found.append(knot)
    return found


def rests_of(graph, codes):
    """Return the dict of the rests of those codes that are held and at which no helper step ends the hold."""
    links = {}
    rests = {}
    for code in codes:
        node = graph.node_at(code)
        base = node.spot.base
        if base not in links:
            links[base] = links_of(graph.frame, node)
        if links[base] is not None:
            rests[code] = rest_at(node.spot, code & (graph.width - 1), links[base])
    return rests


def links_of(frame, node):
    """Return the list of (need, move, is_helper, is_timed) for the moves of others that do not end the hold.

    None stands for a spot that is not held, or where a helper step ends the hold.
    """
    if not is_held(frame, node.spot):
        return None
    seen = view_word(node.spot.parts[0], False)
    links = []
    for need, move in node.moves:
        if move.role != "owner":
            is_helper = move.role == "house" or seen in move.row[1]
            if not ends_hold(frame, move):
                links.append((need, move, is_helper, sets_until(frame.kinds, move.row[3])))
            elif is_helper:
                return None
    return links


def is_held(frame, spot):
    """Tell whether the seat is held there, and not shut."""
    return frame.kinds.get(spot.parts[0], "") in (HELD, TIMED)


def ends_hold(frame, move):
    """Tell whether a move of others ends a hold."""
    behind = frame.spots[move.behind // frame.width]
    return not is_held(frame, behind) or move.row[3][:5] == "take "


def rest_at(spot, past, links):
    """Return the rest of the situation with this past, whose spot has these links."""
    helped = []
    timed = []
    reached = [] if spot.over is None else [spot.over + past]
    for need, move, is_helper, is_timed in links:
        if past & need:
            target = target_of(spot, move, past)
            reached.append(target)
            if is_helper:
                helped.append(target)
            if is_timed:
                timed.append(target)
    return Rest(helped, timed, reached)


def closed_part(rests, codes):
    """Return the list of those codes from which no helper steps lead out of the list."""
    kept = helped_inside(rests, codes)
    while len(kept) < len(codes):
        codes = kept
        kept = helped_inside(rests, codes)
    return kept


def helped_inside(rests, codes):
    """Return the list of those codes from which each helper step leads to one of the codes."""
    inside = {code: True for code in codes}
    return [code for code in codes if all([target in inside for target in rests[code].helped])]


def can_time_go_on(graph, rests, knot):
    """Tell whether time can go on for ever in the knot: it is over or none runs, or a new one is set."""
    inside = {code: True for code in knot}
    for code in knot:
        if graph.node_at(code).spot.over is None or any([target in inside for target in rests[code].timed]):
            return True
    return False


def knots_of(rests, codes):
    """Return the list of the knots: the greatest lists of codes in which ways lead from each one to each other."""
    sources = {code: [] for code in codes}
    for code in codes:
        for target in rests[code].reached:
            if target in sources:
                sources[target].append(code)
    taken = {}
    knots = []
    for code in finished_order(rests, sources)[::-1]:
        if code not in taken:
            knots.append(gathered(sources, code, taken))
    return knots


def gathered(sources, start, taken):
    """Return the list of the codes from which ways lead to the start, but for those taken, and take them."""
    taken[start] = True
    found = [start]
    waiting = [start]
    while waiting:
        code = waiting.pop()
        for source in sources[code]:
            if source not in taken:
                taken[source] = True
                found.append(source)
                waiting.append(source)
    return found


def finished_order(rests, inside):
    """Return the codes in the order in which a search into the depth leaves them."""
    seen = {}
    order = []
    for start in inside:
        waiting = [start]
        while waiting:
            code = waiting.pop()
            if code < 0:
                # All that is reached from the code has been searched.
                order.append(-1 - code)
            elif code not in seen:
                seen[code] = True
                waiting.append(-1 - code)
                waiting.extend([target for target in rests[code].reached if target in inside])
    return order
