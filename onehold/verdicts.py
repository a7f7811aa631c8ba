"""Verdicts: whether a wrong can come, and the checks of runs and tables that show it."""

from onehold.books import check_book, check_rows
from onehold.errors import BadWrong
from onehold.fairness import greatest_sets, members_of
from onehold.graphs import graph_of, has_wrong, path_along, step_to_wrong, walk_to_wrong, walked
from onehold.seats import WRONGS, kinds_of
from onehold.situations import FIRST_SITUATION, behind_step, check_world, is_step

NOBODY = "nobody"


class Verdict:
    """The answer to a question about all runs; it is true if it is safe."""

    def __init__(self, safe, steps=None, path=None, members=None, events=None):
        self.safe = safe
        self.steps = steps
        self.path = path
        self.members = members
        self.events = events

    def __bool__(self):
        return bool(self.safe)


def verdict(book, wrong, *, world="late"):
    """Return the Verdict about the wrong in all runs of the world."""
    check_question(book, wrong, world)
    graph = graph_of(book, world)
    return nobody_verdict(graph) if wrong == NOBODY else wrong_verdict(graph, wrong)


def is_run(book, wrong, path, *, world="late"):
    """Tell whether the path is a row of steps of the world that shows the wrong."""
    check_question(book, wrong, world)
    situation, wrongs = run_end(book, path, world)
    if situation is None:
        return False
    if wrong != NOBODY:
        return wrong in wrongs
    graph = graph_of(book, world)
    code = graph.frame.code_of(situation)
    return any([code in codes for codes in greatest_sets(graph, list(walked(graph).least))])


def is_table(book, wrong, rows, steps, *, world="late"):
    """Tell whether the rows show that no run with fewer steps has the wrong; with None, none at all."""
    check_question(book, wrong, world)
    graph = graph_of(book, world)
    numbers = {}
    for situation, number in rows:
        numbers[graph.frame.code_of(situation)] = number
    if len(numbers) < len(rows) or numbers.get(graph.first, None) != 0:
        return False
    if not all([leads_inside(graph, code, numbers) for code in numbers]):
        return False
    if wrong == NOBODY:
        found = [code for codes in greatest_sets(graph, list(numbers)) for code in codes]
        return are_late(found, numbers, steps)
    found = [code for code in numbers if has_wrong(graph, code, (wrong,))]
    return are_late(found, numbers, None if steps is None else steps - 1)


def let_in(book, wrong, situations, further):
    """Return the list of the names of those further rows whose steps stay in the situations without the wrong."""
    check_book(book)
    check_run_wrong(wrong)
    states, rows = book
    check_rows(states, rows, further)
    graph = graph_of((states, further), "late")
    inside = {graph.frame.code_of(situation): True for situation in situations}
    barred = {}
    for code in inside:
        for move, target in graph.moves_at(code):
            if wrong in move.found or target not in inside:
                barred[move.row[0]] = True
    return [row[0] for row in further if row[0] not in barred]


def check_question(book, wrong, world):
    """Raise the errors of the book, of the wrong and of the world."""
    check_book(book)
    if wrong != NOBODY:
        check_run_wrong(wrong)
    check_world(world)


def check_run_wrong(wrong):
    """Raise BadWrong if it is no wrong of a step."""
    if wrong not in WRONGS:
        raise BadWrong(0)


def wrong_verdict(graph, wrong):
    """Return the Verdict about a wrong of a step."""
    walk, code = walk_to_wrong(graph, (wrong,))
    if code is None:
        return Verdict(True)
    path = path_along(graph, walk.codes_to(code)) + [step_to_wrong(graph, code, wrong)]
    return Verdict(False, walk.steps + 1, path)


def nobody_verdict(graph):
    """Return the Verdict about holds that stay for ever although their holders send nothing."""
    walk = walked(graph)
    found = greatest_sets(graph, list(walk.least))
    if not found:
        return Verdict(True)
    steps, code, at = min([(walk.least[code], code, at) for at, codes in enumerate(found) for code in codes])
    return Verdict(False, steps, path_along(graph, walk.codes_to(code)), members_of(graph, found[at]))


def run_end(book, path, world):
    """Return (situation, wrongs) behind the last step of the path; (None, ()) if it is no row of steps, or empty."""
    states, rows = book
    kinds = kinds_of(states)
    situation = FIRST_SITUATION
    wrongs = ()
    for step in path:
        if not is_step(rows, situation, step, world):
            return (None, ())
        situation, wrongs = behind_step(kinds, rows, situation, step)
    return (situation if path else None, wrongs)


def leads_inside(graph, code, numbers):
    """Tell whether each step from the code leads to one with a number that is not too great."""
    number = numbers[code]
    over = graph.over_at(code)
    if over is not None and (over not in numbers or numbers[over] > number):
        return False
    return all([target in numbers and numbers[target] <= number + 1 for target in graph.targets(code)])


def are_late(codes, numbers, least):
    """Tell whether none of the codes has a number below the least one; with None, whether there are no codes."""
    if least is None:
        return not codes
    return all([numbers[code] >= least for code in codes])
