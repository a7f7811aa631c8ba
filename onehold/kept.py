"""What pages of the owner still show of earlier turns of the number, and walks that count it.

A kept tuple is a number here: a field of bits for each word tells how often the word
is in it. The highest bit of a field, its guard, stays free, so that one subtraction
compares all fields.
"""

from onehold.books import FREE
from onehold.graphs import target_of

FIELD = 12
FIELD_MASK = 4095


class Plan:
    """What can be done at a node, for walks that count pages.

    fixed has (need, code, move) for moves behind which nothing is kept, onward has
    (need, base, most, move) for moves behind which so many words are kept at most.
    paged has (need, move) for those of the owner that need a page that was kept.
    """

    def __init__(self, fixed, onward, paged):
        self.fixed = fixed
        self.onward = onward
        self.paged = paged


class Keeper:
    """The steps of prompt runs with so many pages, in the graph of a book.

    words are the kept words of the book and those of other kept tuples; supply has
    the kept words alone.
    """

    def __init__(self, graph, pages, further=()):
        self.graph = graph
        self.pages = pages
        self.supply = kept_words(graph.frame.rows)
        self.words = sorted(set([*self.supply, *further]))
        self.ones = {word: 1 << (FIELD * place) for place, word in enumerate(self.words)}
        self.guards = sum([one << (FIELD - 1) for one in self.ones.values()])
        self.plans = {}
        self.choices = {}

    def number_of(self, kept):
        """Return the number of the kept tuple."""
        return sum([self.ones[word] for word in kept])

    def kept_of(self, number):
        """Return the kept tuple of the number."""
        return tuple([word for word in self.words for _ in range(self.count_of(number, word))])

    def count_of(self, number, word):
        """Return how often the word is in the kept tuple of the number."""
        return number // self.ones[word] & FIELD_MASK

    def covers(self, more, less):
        """Tell whether the first kept tuple has each word of the second one at least as often."""
        return ((more | self.guards) - less) & self.guards == self.guards

    def most_kept(self, number, state, most):
        """Return the list of the greatest kept tuples, of so many words at most, behind a step at this state.

        All others that can be kept there have each word at most as often as one of these.
        """
        key = (number, state, most)
        if key not in self.choices:
            self.choices[key] = self.found_kept(number, state if state in self.supply else None, most)
        return self.choices[key]

    def found_kept(self, number, supplied, most):
        """Return the list for most_kept; the supplied word can be kept any number of times."""
        found = [(0, 0)]
        for word in self.words:
            if word != supplied:
                count = self.count_of(number, word)
                found = [
                    (size + many, kept + many * self.ones[word])
                    for size, kept in found
                    for many in range(min(count, most - size) + 1)
                ]
        if supplied is not None:
            return [kept + (most - size) * self.ones[supplied] for size, kept in found]
        greatest = max([size for size, _ in found])
        return [kept for size, kept in found if size == greatest]

    def ways(self, code, number):
        """Return the list of (code, number, move, used) for the steps from there; used is the word of a kept page."""
        node = self.graph.node_at(code)
        plan = self.plan_at(node)
        past = code & (self.graph.width - 1)
        behind = past | node.bit
        state = node.spot.parts[0]
        found = [(target, 0, move, None) for need, target, move in plan.fixed if past & need]
        for need, base, most, move in plan.onward:
            if past & need:
                found.extend([(base + behind, kept, move, None) for kept in self.most_kept(number, state, most)])
        for need, move in plan.paged:
            target = target_of(node.spot, move, past)
            for word in self.usable(past & need, number):
                rest = number - self.ones[word]
                left = [0] if move.empties else self.most_kept(rest, state, self.pages - 1)
                found.extend([(target, kept, move, word) for kept in left])
        return found

    def usable(self, bits, number):
        """Return the list of those words of the kept tuple whose bits are among these."""
        bits_of = self.graph.frame.bits
        return [word for word in self.supply if bits & bits_of[word] and self.count_of(number, word)]

    def plan_at(self, node):
        """Return the plan of the node."""
        base = node.spot.base
        if base not in self.plans:
            self.plans[base] = plan_of(node, self.pages)
        return self.plans[base]

    def moves_to(self, code, number, wrong):
        """Return the list of (move, used) of the steps with the wrong that can be taken there."""
        past = code & (self.graph.width - 1)
        found = []
        for need, move in self.graph.node_at(code).moves:
            if past & need and wrong in move.found:
                if is_paged(need, move):
                    found.extend([(move, word) for word in self.usable(past & need, number)])
                else:
                    found.append((move, None))
        return found


def kept_words(rows):
    """Return the ascending list of the kept words of the rows."""
    seen = [word for row in rows if "same" in row[2] and "still" not in row[2] for word in row[1]]
    return sorted(set([FREE if word == FREE else word[3:] for word in seen if word == FREE or word[:3] == "my "]))


def is_paged(need, move):
    """Tell whether a move with this need is of the owner, who needs a page that still shows an earlier turn."""
    return need != 1 and move.role == "owner"


def plan_of(node, pages):
    """Return the plan of the node. Of moves that do the same, one stands there: behind it most can be kept."""
    fixed = {}
    onward = {}
    paged = []
    for need, move in node.moves:
        if is_paged(need, move):
            paged.append((need, move))
        elif move.empties:
            fixed[(need, move.behind + 1)] = move
        else:
            key = (need, move.behind)
            if key not in onward or onward[key].role == "owner":
                onward[key] = move
    return Plan(
        [(need, code, move) for (need, code), move in fixed.items()],
        [(need, base, pages - 1 if move.role == "owner" else pages, move) for (need, base), move in onward.items()],
        paged,
    )


class PageWalk:
    """The points that steps reach, in the order of the least number of steps.

    A point is a pair of a code and the number of a kept tuple. A point is left out if
    one with the same code is reached no later and keeps as much. level is the list of
    those that were reached last, with so many steps. sources has (point, move, used)
    for each one, None for the first one; the move of the clock is None.
    """

    def __init__(self, keeper):
        self.keeper = keeper
        self.graph = keeper.graph
        self.steps = 0
        self.level = []
        self.least = {}
        self.sources = {}
        self.kept = {}
        self.enter(self.graph.first, 0, None)

    def go_on(self):
        """Go on by one step. The clock goes on behind it, if it can, and is not counted."""
        ahead = list(self.level)
        self.level = []
        self.steps += 1
        for point in ahead:
            for code, number, move, used in self.keeper.ways(point[0], point[1]):
                self.enter(code, number, (point, move, used))

    def enter(self, code, number, source):
        """Note that a point is reached, and what the clock does there."""
        others = self.kept.get(code, [])
        if any([self.keeper.covers(other, number) for other in others]):
            return
        point = (code, number)
        self.kept[code] = [*others, number]
        self.least[point] = self.steps
        self.sources[point] = source
        self.level.append(point)
        over = self.graph.over_at(code)
        if over is not None:
            self.enter(over, number, (point, None, None))

    def ways_to(self, point):
        """Return the list of (point, move, used) on a shortest way to the point."""
        found = []
        source = self.sources[point]
        while source is not None:
            found.append(source)
            source = self.sources[source[0]]
        return found[::-1]


def walk_to_page_wrong(keeper, wrong):
    """Return (walk, point): the first point at which a step with the wrong can be taken, None if there is none."""
    walk = PageWalk(keeper)
    while walk.level:
        for point in walk.level:
            if keeper.moves_to(point[0], point[1], wrong):
                return (walk, point)
        walk.go_on()
    return (walk, None)
