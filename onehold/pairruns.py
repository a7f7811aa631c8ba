"""Runs of pairs of houses: the shortest way to a difference, and the events that bring it about."""

from onehold.books import view_word
from onehold.pairs import ENDS, LEVELS, levels_at, views_at
from onehold.roads import OLD_TURN, Letter, PageRoad, travelled
from onehold.situations import SENDERS

# So long is each tick: longer than the shortest time.
TICK = 2
# In which of the houses a letter is done that makes a difference of this kind.
DONE_IN = {"ends": (True, True), "first": (True, False), "second": (False, True)}


class PairWalk:
    """The codes of pairs that steps reach, in the order of the least number of steps.

    level is the list of those that were reached last, with so many steps. sources has
    (code, move) for each one, the move None for the clock, and None for the first one.
    """

    def __init__(self, pair):
        self.pair = pair
        self.steps = 0
        self.level = []
        self.sources = {}
        self.enter(pair.first, None)

    def go_on(self):
        """Go on by one step. The clocks go on behind it, as they can, and are not counted."""
        ahead = list(self.level)
        self.level = []
        self.steps += 1
        for code in ahead:
            past = code & (self.pair.width - 1)
            moves = list(self.pair.spot_at(code).moves)
            for need, move in moves:
                if past & need and move.behind is not None:
                    self.enter(move.behind + self.pair.past_behind(code, move.rises), (code, move))

    def enter(self, code, source):
        """Note that the code is reached from its source, and what the clocks do there."""
        if code in self.sources:
            return
        self.sources[code] = source
        self.level.append(code)
        past = code & (self.pair.width - 1)
        overs = list(self.pair.spot_at(code).overs)
        for base in overs:
            self.enter(base + past, (code, None))

    def ways_to(self, code):
        """Return the list of (code, move, target) on a shortest way to the code."""
        found = []
        source = self.sources[code]
        while source is not None:
            found.append((source[0], source[1], code))
            code = source[0]
            source = self.sources[code]
        return found[::-1]


def walk_to_unlike(pair, kinds):
    """Return (walk, code, unlike): the first difference of one of these kinds, None if there is none."""
    walk = PairWalk(pair)
    while walk.level:
        for code in walk.level:
            past = code & (pair.width - 1)
            for unlike in pair.spot_at(code).unlike:
                if past & unlike[0] and unlike[3] in kinds:
                    return (walk, code, unlike)
        walk.go_on()
    return (walk, None, None)


class PairRun:
    """Where a run of two houses is, and its deeds so far.

    senders has the visitors who are owner, outsider, and payer. seen has, for the
    states that views of the present number show, the last of their turns: those of
    both houses, of the first one alone, of the second one alone. starts has the moment
    of each deed, setters the deed that set the time of each house, ends the moment up
    to which the time that a deed set has to run.
    """

    def __init__(self, pair):
        self.pair = pair
        self.senders = [None, 0, None]
        self.moment = 0
        self.turn = 0
        self.seen = [{}, {}, {}]
        self.deeds = []
        self.starts = []
        self.setters = [None, None]
        self.ends = {}

    def note(self, deed):
        """Put the deed behind the others."""
        self.deeds.append(deed)
        self.starts.append(self.moment)

    def tick(self, clocks, behind):
        """Let the times of those houses end whose clocks are unlike behind it."""
        for house in (0, 1):
            if clocks[house] != behind[house]:
                self.ends[self.setters[house]] = self.moment
        self.note(("tick", TICK))
        self.moment += TICK

    def do(self, code, couple, role, wanted):
        """Send the couple, or let its sweep come, so that it is done in those houses alone where it is wanted."""
        name = couple.rows[0][0]
        if role == "house":
            self.note(("sweep", name, 0, 1))
        else:
            word, turn = view_for(self, code, couple, role, wanted)
            self.note(Letter(self.senders[SENDERS[role]], name, 1, word, turn))

    def go_along(self, code, move):
        """Note what the move, which was done last, has changed."""
        state = self.pair.spot_at(code).parts[0]
        self.seen = seen_behind(self.seen, state, self.turn, move.rises)
        self.turn += 1
        owner, other, payer = self.senders
        payer = None if move.payer is None else self.senders[move.payer]
        owner = owner if move.who is None else self.senders[move.who]
        other = [visitor for visitor in (0, 1, 2) if visitor not in (owner, payer)][0]
        self.senders = [owner, other, payer]
        for house in (0, 1):
            if move.sets[house]:
                self.setters[house] = len(self.deeds) - 1

    def length_of(self, at):
        """Return the length that the house chooses for the deed: its time ends in the right tick, or not at all."""
        if at in self.ends:
            return max(self.ends[at] - self.starts[at], 1)
        return self.moment - self.starts[at] + 1


def seen_behind(seen, state, turn, rises):
    """Return seen behind a step at this turn of this state, by which the numbers rise or not."""
    both, first, second = seen
    both = {**both, state: turn}
    if rises == (True, True):
        return [{}, {}, {}]
    if rises == (True, False):
        return [{}, {}, {**second, **both}]
    if rises == (False, True):
        return [{}, {**first, **both}, {}]
    return [both, first, second]


def view_for(run, code, couple, role, wanted):
    """Return (word, turn) of a view in whose sight the letter of the role is done in just the wanted houses."""
    spot = run.pair.spot_at(code)
    past = code & (run.pair.width - 1)
    is_owner = role == "owner"
    levels = levels_at(run.pair, spot, couple, role)
    views = views_at(run.pair, spot, couple, role, True)
    still, *same, old = [
        past & need and (levels[0] >= least[0], levels[1] >= least[1]) == wanted for need, least in zip(views, LEVELS)
    ]
    if still:
        return (view_word(spot.parts[0], is_owner), run.turn)
    if old:
        return (couple.words[0], OLD_TURN)
    seen = [table for table, fits in zip(run.seen, same) if fits][0]
    state = [state for state in seen if view_word(state, is_owner) in couple.words][0]
    return (view_word(state, is_owner), seen[state])


def unlike_events(walk, code, unlike):
    """Return the events, for both houses, that lead to the difference, which is at the last one."""
    pair = walk.pair
    run = PairRun(pair)
    for at, move, target in walk.ways_to(code):
        if move is None:
            run.tick(pair.spot_at(at).parts[1], pair.spot_at(target).parts[1])
        else:
            run.do(at, move.couple, move.role, DONE_IN[ENDS])
            run.go_along(at, move)
    _, couple, role, kind = unlike
    run.do(code, couple, role, DONE_IN[kind])
    deeds = []
    for at, deed in enumerate(run.deeds):
        if isinstance(deed, Letter):
            deed.length = run.length_of(at)
        deeds.append(("sweep", deed[1], 0, run.length_of(at)) if is_sweep_deed(deed) else deed)
    events = travelled(PageRoad(), deeds)
    last = max([at for at, event in enumerate(events) if event[0] in ("comes", "sweep")])
    return events[:last + 1]


def is_sweep_deed(deed):
    """Tell whether the deed is a sweep."""
    return not isinstance(deed, Letter) and deed[0] == "sweep"
