"""Books compared: with their own runs in the world "fresh", with other books, and with fewer looks."""

from onehold.books import FREE, check_book
from onehold.errors import NotDone, UnlikeStates
from onehold.frames import Frame, level_of
from onehold.graphs import Graph, Walk, path_along, roles_at, step_of, walked
from onehold.pairruns import unlike_events, walk_to_unlike
from onehold.pairs import ENDS, FIRST, SECOND, UNSENT, Pair
from onehold.seats import kinds_of, sets_until
from onehold.situations import check_situation, effect_of, is_step, steps_of
from onehold.verdicts import Verdict


def serial(book):
    """Return the Verdict about steps that do what no step of the world "fresh" does there."""
    check_book(book)
    frame = Frame(book)
    late = Graph(frame, "late", frame.masks)
    walk = Walk(Graph(frame, "fresh", frame.masks))
    while walk.level:
        for code in walk.level:
            moves = lonely_moves(walk.graph, late, code)
            if moves:
                path = path_along(walk.graph, walk.codes_to(code)) + [step_of(late, code, moves[0])]
                return Verdict(False, walk.steps + 1, path)
        walk.go_on()
    return Verdict(True)


def stand_in(book, situation, step):
    """Return a step of the world "fresh" with the effect of the step, None if there is none."""
    check_book(book)
    states, rows = book
    kinds = kinds_of(states)
    check_situation(kinds, situation)
    if not is_step(rows, situation, step, "late"):
        raise NotDone()
    told = effect_of(kinds, rows, situation, step)
    for other in steps_of(rows, situation, "fresh"):
        if effect_of(kinds, rows, situation, other) == told:
            return other
    return None


def difference(first, second):
    """Return the Verdict about events that make a difference between two houses, one of each book."""
    check_books(first, second)
    events = sight_events(first[1], second[1])
    if events is not None:
        return Verdict(False, 0, None, None, events)
    walk, code, unlike = walk_to_unlike(Pair(first, second), (FIRST, SECOND, ENDS))
    if code is None:
        return Verdict(True)
    return Verdict(False, walk.steps, None, None, unlike_events(walk, code, unlike))


def never_more(first, second):
    """Tell whether nothing is done in a house of the first book that is not done likewise in one of the second."""
    check_books(first, second)
    _, code, _ = walk_to_unlike(Pair(first, second), (FIRST, UNSENT, ENDS))
    return code is None


def check_books(first, second):
    """Raise the errors of the books, or UnlikeStates if their states are unlike as sets."""
    check_book(first)
    check_book(second)
    if sorted(first[0]) != sorted(second[0]):
        raise UnlikeStates()


def sight_events(rows, others):
    """Return events that one house alone does, since names or shown views of rows are unlike; None if they are not."""
    for mine, theirs in ((rows, others), (others, rows)):
        shown = {row[0]: row[1] for row in theirs}
        for name, words, _, _, _ in mine:
            if not words and shown.get(name, ("",)) != ():
                return [("sweep", name, 0, 1)]
            lone = [word for word in words if word not in shown.get(name, ())]
            if lone:
                return [("open", 0), ("old", 0, (lone[0],)), ("press", 0, name, (0,))]
    return None


def idle_looks(book):
    """Return the list of (name, look) of the looks that can be left out, each by itself: the book stays alike."""
    check_book(book)
    frame = Frame(book)
    places = places_of(walked(Graph(frame, "late", frame.masks)))
    return [
        (row[0], look)
        for place, row in enumerate(frame.rows)
        for look in row[2]
        if not does_more(frame, places, place, frame.looks[look])
    ]


def buttons(book):
    """Return the list of (name, word, late, fresh, always) of the shown words of the rows of letters."""
    check_book(book)
    frame = Frame(book)
    late = places_of(walked(Graph(frame, "late", frame.masks)))
    fresh = places_of(walked(Graph(frame, "fresh", frame.masks)))
    found = []
    for place, row in enumerate(frame.rows):
        offers = offers_of(frame, late, place, frame.masks[place])
        fresh_offers = offers_of(frame, fresh, place, frame.masks[place])
        for word in row[1]:
            seen = [offer.level > 0 for offer in offers if offer.is_seen(word)]
            fresh_seen = [offer.level > 0 for offer in fresh_offers if offer.is_seen(word)]
            is_late = any([offer.is_done(word) for offer in offers])
            found.append((row[0], word, is_late, any(fresh_seen), all(seen)))
    return found


class Offer:
    """A role that may send a row at a spot, by so many ages; views has the bits of the words that the role sees."""

    def __init__(self, role, level, views, bit, past):
        self.role = role
        self.level = level
        self.views = views
        self.bit = bit
        self.past = past

    def is_seen(self, word):
        """Tell whether the word is what the role sees of the state."""
        return self.views.get(word, 0) & self.bit > 0

    def is_done(self, word):
        """Tell whether the row is done in sight of the word, by a view of some age."""
        if self.level < 2:
            return self.level == 1 and self.is_seen(word)
        return self.level == 3 or self.views.get(word, 0) & (self.bit | self.past) > 0


def lonely_moves(graph, late, code):
    """Return the list of the moves of the late graph at the situation that have no stand-in in the graph."""
    spot = graph.node_at(code).spot
    told = [told_of(graph.frame, spot, move) for move, _ in graph.moves_at(code)]
    return [move for move, _ in late.moves_at(code) if told_of(graph.frame, spot, move) not in told]


def told_of(frame, spot, move):
    """Return what effect tells of the move, where the spot and its past are known."""
    holds = move.role == "owner" and spot.parts[0] != FREE
    return (holds, move.who, move.rises, sets_until(frame.kinds, move.row[3]), move.behind, move.found)


def places_of(walk):
    """Return the list of (spot, past) of the spots of the walk; past has the bits of all pasts there."""
    pasts = {}
    width = walk.graph.width
    for code in walk.least:
        pasts[code // width] = pasts.get(code // width, 0) | code & (width - 1)
    return [(walk.graph.frame.spots[at], past) for at, past in pasts.items()]


def offers_of(frame, places, place, mask):
    """Return the list of the offers of the row at this place, if it has the mask, at the places."""
    return [
        Offer(role, level_of(spot, role, mask) if place in spot.able else 0, frame.views_for(role), spot.bit, past)
        for spot, past in places
        for role in frame.roles[place]
        if role in roles_at(spot, False)
    ]


def does_more(frame, places, place, bit):
    """Tell whether the row at this place is done by further letters, or sweeps, if it has not the look."""
    mask = frame.masks[place]
    pairs = zip(offers_of(frame, places, place, mask), offers_of(frame, places, place, mask & ~bit))
    return any([has_view(frame.sight_of(place, more.role), fewer.level, more) for fewer, more in pairs])


def has_view(sight, level, offer):
    """Tell whether there is a view, by which the offer is done, of an age that is too great for the level."""
    if level >= offer.level:
        return False
    if offer.level == 3 or (level == 0 and sight & offer.bit):
        return True
    return level < 2 <= offer.level and sight & offer.past > 0
