"""Mends: looks that keep wrongs away, and looks that are not needed for it."""

from onehold.books import all_looks, check_book, is_sweep
from onehold.errors import BadMost, BadWrong, HasWrong
from onehold.fairness import greatest_sets
from onehold.frames import STILL, Frame
from onehold.graphs import Graph, has_wrong, need_under, roles_at, walk_to_wrong, walked
from onehold.seats import WRONGS
from onehold.trials import Trial, hops_to_wrong
from onehold.verdicts import NOBODY


def gentle_looks(book):
    """Return the list of (name, look) of the gentle looks, in order."""
    check_book(book)
    states, rows = book
    frame = Frame(book, all_looks(states))
    return [(rows[place][0], look) for place, look in gentle_places(frame, all_looks(states))]


def least_looks(book, wrongs, *, most=2):
    """Return the first one of the least tuples of gentle looks that keep the wrongs away, None for more than most."""
    check_book(book)
    check_wrongs(wrongs)
    if most not in (0, 1, 2):
        raise BadMost(most)
    states, rows = book
    frame = Frame(book, all_looks(states))
    if is_fresh_wrong(frame, wrongs):
        return None
    gentle = gentle_places(frame, all_looks(states))
    chosen = Trial(frame, wrongs, [(place, frame.looks[look]) for place, look in gentle]).least_set(most)
    return None if chosen is None else tuple([(rows[gentle[at][0]][0], gentle[at][1]) for at in chosen])


def fewest_rows(book, wrongs):
    """Return the first one of the least tuples of names of rows in which "still" keeps the wrongs away, or None."""
    check_book(book)
    check_wrongs(wrongs)
    rows = book[1]
    frame = Frame(book)
    if is_fresh_wrong(frame, wrongs):
        return None
    places = [place for place, row in enumerate(rows) if not is_sweep(row) and "still" not in row[2]]
    chosen = Trial(frame, wrongs, [(place, STILL) for place in places]).least_set(len(places))
    return None if chosen is None else tuple([rows[places[at]][0] for at in chosen])


def needless_looks(book, wrongs):
    """Return the list of (name, look) of the looks that are taken out, from the last one on, if nothing needs them."""
    check_book(book)
    check_wrongs(wrongs)
    rows = book[1]
    frame = Frame(book)
    walk = walked(Graph(frame, "late", frame.masks))
    for wrong in wrongs:
        if comes_in(walk, wrong):
            raise HasWrong(wrong)
    found = []
    for place in range(len(rows) - 1, -1, -1):
        for look in rows[place][2][::-1]:
            other = walk_without(walk, place, frame.looks[look], wrongs)
            if other is not None:
                walk = other
                found.append((rows[place][0], look))
    return found


def check_wrongs(wrongs):
    """Raise BadWrong for no wrongs, or for the first one that is unknown or named a second time."""
    if not wrongs:
        raise BadWrong(0)
    for index, wrong in enumerate(wrongs):
        if (wrong != NOBODY and wrong not in WRONGS) or wrong in wrongs[:index]:
            raise BadWrong(index)


def gentle_places(frame, looks):
    """Return the list of (place, look) of the gentle looks among these, in order."""
    harsh = list(frame.masks)
    for node in walked(Graph(frame, "late", frame.masks)).graph.nodes.values():
        for _, move in node.moves:
            if frame.sight_of(move.place, move.role) & node.bit:
                harsh[move.place] = harsh[move.place] | node.spot.barred[move.role]
    return [
        (place, look)
        for place, row in enumerate(frame.rows)
        if not is_sweep(row)
        for look in looks
        if not harsh[place] & frame.looks[look]
    ]


def is_fresh_wrong(frame, wrongs):
    """Tell whether a run of the world "fresh" has one of the wrongs; then no gentle looks keep them away."""
    return hops_to_wrong(Graph(frame, "fresh", frame.masks), wrongs) is not None


def comes_in(walk, wrong):
    """Tell whether the wrong can come in the graph that was walked through."""
    if wrong == NOBODY:
        return len(greatest_sets(walk.graph, list(walk.least))) > 0
    return any([has_wrong(walk.graph, code, (wrong,)) for code in walk.least])


def walk_without(walk, place, bit, wrongs):
    """Return the walk through the book without the look, None if one of the wrongs can come then."""
    old = walk.graph
    masks = list(old.masks)
    masks[place] = masks[place] & ~bit
    graph = Graph(old.frame, "late", masks)
    if not is_wider(walk, graph, place):
        # The walk goes through the same moves, but the next look is taken out of these masks.
        old.masks = masks
        return walk
    other, code = walk_to_wrong(graph, wrongs)
    if code is not None or (NOBODY in wrongs and greatest_sets(graph, list(other.least))):
        return None
    return other


def is_wider(walk, graph, place):
    """Tell whether the row at this place may do more in the graph at a spot of the walk."""
    frame = graph.frame
    old, new = walk.graph.masks[place], graph.masks[place]
    for node in walk.graph.nodes.values():
        spot = node.spot
        if place in spot.able:
            for role in frame.roles[place]:
                if role in roles_at(spot, False):
                    need = need_under(frame, spot, old, place, role)
                    if need_under(frame, spot, new, place, role) != need:
                        return True
    return False
