"""Pages: prompt runs, in which nothing is late, with so many pages for each visitor."""

from onehold.books import check_book, view_word
from onehold.errors import BadPages
from onehold.graphs import graph_of, walk_to_wrong
from onehold.kept import Keeper, PageWalk, kept_words, walk_to_page_wrong
from onehold.roads import ShortPageRoad, travelled
from onehold.runs import path_deeds
from onehold.situations import CLOCK_STEP, steps_of
from onehold.verdicts import Verdict, check_run_wrong

MOST_PAGES = 3


def prompt_verdict(book, wrong, pages):
    """Return the Verdict about prompt runs in which no visitor has more than so many pages open at a time."""
    check_book(book)
    check_run_wrong(wrong)
    check_pages(pages)
    keeper = Keeper(graph_of(book, "late"), pages)
    walk, point = walk_to_page_wrong(keeper, wrong)
    if point is None:
        return Verdict(True)
    move, used = keeper.moves_to(point[0], point[1], wrong)[0]
    path = [way_step(walk.graph, way) for way in [*walk.ways_to(point), (point, move, used)]]
    events = travelled(ShortPageRoad(), path_deeds(book, path, True))
    return Verdict(False, walk.steps + 1, None, None, events)


def fewest_pages(book, wrong):
    """Return how many pages it takes: 0 for the world "fresh", 1 to 3, 4 for more, None if the wrong cannot come."""
    check_book(book)
    check_run_wrong(wrong)
    _, code = walk_to_wrong(graph_of(book, "fresh"), (wrong,))
    if code is not None:
        return 0
    late = graph_of(book, "late")
    _, code = walk_to_wrong(late, (wrong,))
    if code is None:
        return None
    if not kept_words(book[1]):
        return 1
    for pages in range(1, MOST_PAGES + 1):
        _, point = walk_to_page_wrong(Keeper(late, pages), wrong)
        if point is not None:
            return pages
    return MOST_PAGES + 1


def page_table(book, pages):
    """Return a page table: the list of (situation, kept, number) of all that is reached."""
    check_book(book)
    check_pages(pages)
    keeper = Keeper(graph_of(book, "late"), pages)
    walk = PageWalk(keeper)
    while walk.level:
        walk.go_on()
    frame = walk.graph.frame
    return [(frame.situation_at(code), keeper.kept_of(kept), steps) for (code, kept), steps in walk.least.items()]


def is_page_table(book, wrong, pages, rows, steps):
    """Tell whether the rows show that no prompt run with fewer steps has the wrong; with None, none at all."""
    check_book(book)
    check_run_wrong(wrong)
    check_pages(pages)
    graph = graph_of(book, "late")
    keeper = Keeper(graph, pages, [word for _, kept, _ in rows for word in kept])
    points = [(graph.frame.code_of(situation), keeper.number_of(kept), number) for situation, kept, number in rows]
    numbers = {}
    for code, kept, number in points:
        numbers.setdefault(code, []).append((kept, number))
    if (0, 0) not in numbers.get(graph.first, []):
        return False
    for code, kept, number in points:
        if not leads_inside(keeper, numbers, code, kept, number):
            return False
        if (steps is None or number < steps - 1) and keeper.moves_to(code, kept, wrong):
            return False
    return True


def check_pages(pages):
    """Raise BadPages if it is not 1, 2 or 3."""
    if not 1 <= pages <= MOST_PAGES:
        raise BadPages(pages)


def leads_inside(keeper, numbers, code, kept, number):
    """Tell whether each step from the point leads to one that keeps as much, with a number that is not too great."""
    over = keeper.graph.over_at(code)
    if over is not None and not is_inside(keeper, numbers, over, kept, number):
        return False
    ways = keeper.ways(code, kept)
    return all([is_inside(keeper, numbers, target, behind, number + 1) for target, behind, _, _ in ways])


def is_inside(keeper, numbers, code, kept, most):
    """Tell whether a row has the code, keeps as much, and has at most this number."""
    for other, number in numbers.get(code, []):
        if number <= most and keeper.covers(other, kept):
            return True
    return False


def way_step(graph, way):
    """Return a step of the move; one of the owner uses a page that was kept only for the used word."""
    (code, _), move, used = way
    if move is None:
        return CLOCK_STEP
    steps = [step for step in steps_of((move.row,), graph.frame.situation_at(code), "late") if step[1] == move.role]
    if used is not None:
        return [step for step in steps if step[2] == "same" and step[3] == view_word(used, True)][0]
    return [step for step in steps if step[1] != "owner" or step[2] != "same"][0]
