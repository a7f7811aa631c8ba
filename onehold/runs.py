"""Runs: events of a house with one seat that go along a path, or as other events go."""

from onehold.books import check_book, view_word
from onehold.errors import NotDone
from onehold.frames import Frame
from onehold.graphs import Graph, walk_to_wrong
from onehold.houses import House, play, scenes_of
from onehold.roads import OLD_TURN, AnswerRoad, Letter, LetterRoad, PageRoad, travelled
from onehold.seats import kinds_of
from onehold.situations import CLOCK_STEP, FIRST_SITUATION, effect_of, is_step
from onehold.verdicts import check_run_wrong

# Each time of a path's run has this length, and is over so many moments later.
LENGTH = 1
LONGER = 2


def events_of(book, path):
    """Return events of a house with one seat, whose situation goes along the path."""
    check_book(book)
    return travelled(PageRoad(), path_deeds(book, path))


def course(book, events):
    """Return the list of (now, record) behind each of the events that changes one of them."""
    points = [(scene.moment, scene.records[0]) for scene in scenes_of(played(book, events))]
    return [behind for ahead, behind in zip(points, points[1:]) if ahead != behind]


def to_pages(book, events):
    """Return events with the same course, in which no letter and no answer is late."""
    return travelled(PageRoad(), deeds_of(played(book, events)))


def to_letters(book, events):
    """Return events with the same course, in which each visitor has one page and only letters are late."""
    return travelled(LetterRoad(), deeds_of(played(book, events)))


def to_answers(book, events):
    """Return events with the same course, in which each visitor has one page and only answers are late."""
    return travelled(AnswerRoad(), deeds_of(played(book, events)))


def to_two(book, events):
    """Return events with the same course, but for the names of who and of payers, by the visitors 0 and 1."""
    return travelled(PageRoad(), two_deeds(played(book, events)))


def fewest_visitors(book, wrong):
    """Return how many visitors it takes to bring the wrong about: 1, 2, or None if it cannot come."""
    check_book(book)
    check_run_wrong(wrong)
    frame = Frame(book)
    for visitors in (1, 2):
        _, code = walk_to_wrong(Graph(frame, "late", frame.masks, visitors == 1), (wrong,))
        if code is not None:
            return visitors
    return None


def played(book, events):
    """Return a house with one seat behind the events."""
    house = House(book)
    play(house, events)
    return house


def changes_of(house):
    """Return the list of (event, ahead, behind), with two scenes, of the ticks and the steps that were done."""
    scenes = scenes_of(house)
    return [
        (event, ahead, behind)
        for event, ahead, behind in zip(house.story(), scenes, scenes[1:])
        if event[0] == "tick" or ahead.records != behind.records
    ]


def deeds_of(house):
    """Return the list of the deeds of the house, as roads take them."""
    return [deed_of(event, ahead) for event, ahead, _ in changes_of(house)]


def deed_of(event, ahead):
    """Return the deed of an event that changed something behind this scene."""
    if event[0] != "comes":
        return event
    _, number, length = event
    _, visitor, row, _, views = ahead.going[number]
    word, _, turn = views[0]
    return Letter(visitor, row[0], length, word, turn)


def two_deeds(house):
    """Return the list of the deeds of the house, done by two visitors."""
    deeds = []
    owner = None
    # Where the owner stands among the two; the other one is 1 - place. Nobody is owner at first.
    place = 1
    since = 0
    for event, ahead, behind in changes_of(house):
        deed = deed_of(event, ahead)
        deeds.append(deed)
        if isinstance(deed, Letter):
            deed.visitor = place if deed.visitor == owner else 1 - place
            # What was seen at smaller numbers may be seen otherwise now, but an old answer does as well.
            deed.turn = deed.turn if deed.turn >= since else OLD_TURN
        _, who, number, turn = behind.records[0][:4]
        if number != ahead.records[0][2]:
            since = turn
        if who is not None and who != owner:
            owner = who
            place = 1 - place
    return deeds


class Place:
    """Where a run along a path is: the situation here, the visitor who is owner, and the next outsider.

    turns has, for each state, the last of the smaller turns at which the seat was in it.
    Nobody is owner at first; the visitor 0, who is an outsider then, may become it. In
    a crowd each letter of an outsider is another visitor's, otherwise there are two.
    """

    def __init__(self, crowd):
        self.crowd = crowd
        self.here = FIRST_SITUATION
        self.owner = 1
        self.outsider = 0
        self.turn = 0
        self.turns = {}


def path_deeds(book, path, crowd=False):
    """Return the list of the deeds along the path, or raise NotDone."""
    states, rows = book
    kinds = kinds_of(states)
    place = Place(crowd)
    deeds = []
    for step in path:
        if not is_step(rows, place.here, step, "late"):
            raise NotDone()
        deeds.append(step_deed(place, step))
        go_along(place, step, effect_of(kinds, rows, place.here, step))
    return deeds


def step_deed(place, step):
    """Return the deed of the step."""
    name, role, age, word = step
    if step == CLOCK_STEP:
        return ("tick", LONGER)
    if role == "house":
        return ("sweep", name, 0, LENGTH)
    visitor = place.owner if role == "owner" else place.outsider
    turn = OLD_TURN
    if age == "still":
        turn = place.turn
    elif age == "same":
        # The state is in the past, so that its last turn is one of the present number.
        turn = [place.turns[state] for state in place.turns if view_word(state, role == "owner") == word][0]
    return Letter(visitor, name, LENGTH, word, turn)


def go_along(place, step, told):
    """Go to where the step leads, by what effect tells of it."""
    _, who, _, _, behind, _ = told
    if step != CLOCK_STEP:
        place.turns[place.here[0]] = place.turn
        place.turn += 1
    sender = place.outsider
    if place.crowd and step[1] == "outsider":
        place.outsider = sender + 1
    if who == "outsider":
        place.outsider = place.outsider if place.crowd else place.owner
        place.owner = sender
    place.here = behind
