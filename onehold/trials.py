"""Trials: a book with further looks in its rows, and the runs that have a wrong nevertheless."""

from onehold.fairness import ends_hold, greatest_sets
from onehold.graphs import Graph, need_under, walk_to_wrong
from onehold.verdicts import NOBODY


class Trial:
    """Looks that may be put into the rows of a frame, so that none of the wrongs can come.

    changes is the list of (place, bit) of the looks. A hurdle stands for a run with a
    wrong: a number with a bit for each change that breaks the run. So changes that keep
    the wrongs away meet each hurdle.
    """

    def __init__(self, frame, wrongs, changes):
        self.frame = frame
        self.unwanted = wrongs
        self.changes = changes
        self.ends = {}
        for at, (place, bit) in enumerate(changes):
            self.ends.setdefault(place, []).append((at, bit))

    def least_set(self, most):
        """Return the first one of the least tuples of changes that do it, None if it takes more than so many."""
        hurdles = []
        for many in range(most + 1):
            chosen = first_set(hurdles, len(self.changes), many, 0)
            while chosen is not None:
                hurdle = self.hurdle_behind(chosen)
                if hurdle is None:
                    return chosen
                hurdles = [*hurdles, hurdle]
                chosen = first_set(hurdles, len(self.changes), many, chosen[0] if chosen else 0)
        return None

    def hurdle_behind(self, chosen):
        """Return a hurdle that the chosen changes do not meet, None if there is none."""
        masks = list(self.frame.masks)
        for at in chosen:
            place, bit = self.changes[at]
            masks[place] = masks[place] | bit
        graph = Graph(self.frame, "late", masks)
        hops = hops_to_wrong(graph, self.unwanted)
        if hops is None:
            return None
        breaking = {at: True for code, moves in hops for at in self.least_breaking(graph, code, moves)}
        return sum([1 << at for at in breaking])

    def least_breaking(self, graph, code, moves):
        """Return the changes that break one of the moves, which do the same there: one that few changes break."""
        return min([self.breaking(graph, code, move) for move in moves], key=len)

    def breaking(self, graph, code, move):
        """Return the list of the changes behind which the move cannot be made at the situation."""
        spot = self.frame.spot_at(code)
        past = code & (graph.width - 1)
        found = []
        for at, bit in self.ends.get(move.place, []):
            mask = self.frame.masks[move.place] | bit
            if not past & need_under(self.frame, spot, mask, move.place, move.role):
                found.append(at)
        return found


def first_set(hurdles, total, many, start):
    """Return the first ascending tuple of so many changes, the first of them from start on, that meets the hurdles."""
    if many == 0:
        return None if hurdles else ()
    if many == 1:
        common = (1 << total) - (1 << start)
        for hurdle in hurdles:
            common = common & hurdle
        return ((common & -common).bit_length() - 1,) if common > 0 else None
    for at in range(start, total):
        more = first_set([hurdle for hurdle in hurdles if not hurdle >> at & 1], total, many - 1, at + 1)
        if more is not None:
            return (at, *more)
    return None


def hops_to_wrong(graph, wrongs):
    """Return a run with one of the wrongs, None if there is none: a list of (code, moves).

    Each time one of the moves, which do the same, is made there. The clock, which
    nothing keeps from going on, is left out.
    """
    walk, code = walk_to_wrong(graph, wrongs)
    if code is not None:
        moves = [move for move, _ in graph.moves_at(code) if any([wrong in wrongs for wrong in move.found])]
        return hops_along(graph, walk.codes_to(code)) + [(code, moves)]
    found = greatest_sets(graph, list(walk.least)) if NOBODY in wrongs else []
    if not found:
        return None
    _, code, at = min([(walk.least[code], code, at) for at, codes in enumerate(found) for code in codes])
    return hops_along(graph, walk.codes_to(code)) + hops_inside(graph, found[at])


def hops_along(graph, codes):
    """Return the hops from each of the codes to the next."""
    hops = []
    for code, target in zip(codes, codes[1:]):
        if graph.over_at(code) != target:
            hops.append((code, [move for move, behind in graph.moves_at(code) if behind == target]))
    return hops


def hops_inside(graph, codes):
    """Return the hops of others than the holder among the codes of a fair set; helper steps cannot be broken."""
    inside = {code: True for code in codes}
    return [
        (code, [move])
        for code in codes
        for move, target in graph.moves_at(code)
        if target in inside and move.role != "owner" and not ends_hold(graph.frame, move)
    ]
