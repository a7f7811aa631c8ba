"""Tables: all situations that runs of a book can reach."""

from onehold.books import check_book
from onehold.graphs import graph_of, walked
from onehold.situations import check_world


def table(book, *, world="late"):
    """Return the list of (situation, least), ascending: what is reached, and with how many steps."""
    check_book(book)
    check_world(world)
    graph = graph_of(book, world)
    return rows_of(graph.frame, walked(graph).least)


def rows_of(frame, least):
    """Return the list of (situation, least) of the codes, ascending."""
    pasts = {code & (frame.width - 1): True for code in least}
    order = sorted([(frame.past_at(past), past) for past in pasts])
    bases = {}
    for spot in frame.spots:
        bases.setdefault(spot.parts, []).append(spot.base)
    rows = []
    for parts in sorted(list(bases)):
        for past, bits in order:
            rows.extend([(parts + (past,), least[base + bits]) for base in bases[parts] if base + bits in least])
    return rows
