"""Houses: what visitors, pages, letters and sweeps do to seats, event by event."""

from onehold.books import check_book, is_sweep, view_words
from onehold.errors import (
    BadBasket,
    BadEvent,
    BadLength,
    BadWords,
    NoAnswer,
    NoLetter,
    NoPage,
    NoRow,
    NoSeat,
    NotShown,
    NothingToUndo,
    WrongAhead,
)
from onehold.scenes import (
    can_sweep,
    first_scene,
    with_answer,
    with_heard,
    with_letter,
    with_moments,
    with_page,
    with_sweep,
    with_views,
    without_letter,
    without_page,
)
from onehold.seats import kinds_of, situation_of

EVENT_FORMS = (
    ("open", 2),
    ("close", 2),
    ("old", 3),
    ("refresh", 2),
    ("press", 4),
    ("comes", 3),
    ("hear", 2),
    ("lose", 2),
    ("sweep", 4),
    ("tick", 2),
)
# A twin is made of this book and then gets that of its house, which need not be checked again.
SMALL_BOOK = ((("held", False, False),), ())


class House:
    """A live house. Its story has an event for each scene behind the first one."""

    def __init__(self, book, *, seats=1):
        check_book(book)
        if seats < 1:
            raise NoSeat(seats)
        self._book = book
        self._kinds = kinds_of(book[0])
        self._story = []
        self._scenes = [first_scene(seats)]

    @property
    def now(self):
        """The moment."""
        return self._scenes[-1].moment

    def open_page(self, visitor):
        """Open a page that shows the house at this moment, and return its number."""
        scene = with_page(self._scenes[-1], visitor)
        self._add(("open", visitor), scene)
        return len(scene.pages) - 1

    def close_page(self, page):
        """Close the page: what is on its way to it is gone."""
        self._check_page(page)
        self._add(("close", page), without_page(self._scenes[-1], page))

    def old_answer(self, page, *words):
        """Let an answer from before the run reach the page: it shows these view words."""
        self._check_page(page)
        self._check_words(words)
        views = tuple([(word, -1, -1) for word in words])
        self._add(("old", page, words), with_views(self._scenes[-1], page, views))

    def refresh(self, page):
        """Send a letter that asks for the views, and return its number."""
        self._check_page(page)
        scene = with_letter(self._scenes[-1], page, None, ())
        self._add(("refresh", page), scene)
        return scene.letters - 1

    def press(self, page, name, *seats):
        """Send a letter of the row for the seats, and return its number."""
        scene = self._pressed(page, name, seats)
        self._add(("press", page, name, seats), scene)
        return scene.letters - 1

    def comes(self, letter, length=1):
        """Let the letter come to the house, and return whether it is done."""
        if letter not in self._scenes[-1].going:
            raise NoLetter(letter)
        check_length(length)
        scene = with_answer(self._scenes[-1], self._kinds, letter, length)
        self._add(("comes", letter, length), scene)
        return letter not in scene.refusals

    def hear(self, letter):
        """Let the answer of the letter reach its page."""
        if letter not in self._scenes[-1].answers:
            raise NoAnswer(letter)
        self._add(("hear", letter), with_heard(self._scenes[-1], letter))

    def lose(self, letter):
        """Let the letter be lost, or its answer."""
        scene = self._scenes[-1]
        if letter not in scene.going and letter not in scene.answers:
            raise NoLetter(letter)
        self._add(("lose", letter), without_letter(scene, letter))

    def send(self, page, name, *seats, length=1):
        """Press, let the letter come and hear its answer at once; return whether it is done."""
        pressed = self._pressed(page, name, seats)
        check_length(length)
        letter = pressed.letters - 1
        come = with_answer(pressed, self._kinds, letter, length)
        heard = with_heard(come, letter)
        # Nothing has been pressed if the step is one that a guarded house does not do.
        self._check_step(come)
        self._add(("press", page, name, seats), pressed)
        self._add(("comes", letter, length), come)
        self._add(("hear", letter), heard)
        return letter not in come.refusals

    def sweep(self, name, seat, length=1):
        """Let a sweep come to the seat, and return whether it is done."""
        row = self._row(name, True)
        self._check_seat(seat)
        check_length(length)
        scene = self._scenes[-1]
        done = can_sweep(scene, row, seat)
        behind = with_sweep(scene, self._kinds, row, seat, length) if done else scene.copied()
        self._add(("sweep", name, seat, length), behind)
        return done

    def tick(self, moments=1):
        """Let so many moments go by."""
        check_length(moments)
        self._add(("tick", moments), with_moments(self._scenes[-1], moments))

    def record(self, seat):
        """Return the record of the seat."""
        self._check_seat(seat)
        return self._scenes[-1].records[seat]

    def shown(self, page):
        """Return the tuple of the views that the page shows."""
        self._check_page(page)
        return self._scenes[-1].pages[page][1]

    def failed(self, letter):
        """Return the list of (seat, look) of what failed when the letter was refused."""
        scene = self._scenes[-1]
        if not 0 <= letter < scene.letters:
            raise NoLetter(letter)
        return list(scene.refusals.get(letter, ()))

    def wrongs(self, seat):
        """Return the list of (index, wrong) of the steps of the seat so far."""
        self._check_seat(seat)
        return list(self._scenes[-1].noted[seat])

    def story(self):
        """Return the list of the events so far."""
        return list(self._story)

    def situation(self, seat):
        """Return the situation of the seat."""
        record = self.record(seat)
        scene = self._scenes[-1]
        return situation_of(record, scene.pasts[seat], scene.moment)

    def undo(self):
        """Take the last event of the story back."""
        if not self._story:
            raise NothingToUndo()
        self._story.pop()
        self._scenes.pop()

    def twin(self):
        """Return an independent house of the same class with the same story."""
        other = self._made(SMALL_BOOK)
        other._book = self._book
        other._kinds = self._kinds
        other._story = list(self._story)
        other._scenes = list(self._scenes)
        return other

    @classmethod
    def _made(cls, book):
        """Return a house of the class at the beginning of its story."""
        return cls(book)

    def _add(self, event, scene):
        """Put an event, with the scene behind it, into the story."""
        self._check_step(scene)
        self._story.append(event)
        self._scenes.append(scene)

    def _check_step(self, scene):
        """Let the last step of this scene be done, whatever wrongs it has."""

    def _pressed(self, page, name, seats):
        """Return the scene behind the sending of a letter for the seats."""
        self._check_page(page)
        row = self._row(name, False)
        for seat in seats:
            self._check_seat(seat)
        if not seats or len(set(seats)) < len(seats):
            raise BadBasket()
        views = self.shown(page)
        for seat in seats:
            if views[seat][0] not in row[1]:
                raise NotShown(seat)
        return with_letter(self._scenes[-1], page, row, seats)

    def _row(self, name, sweep):
        """Return the row of this name, which is a sweep or is not one."""
        for row in self._book[1]:
            if row[0] == name and is_sweep(row) == sweep:
                return row
        raise NoRow(name)

    def _check_page(self, page):
        """Raise NoPage if no such page is open."""
        pages = self._scenes[-1].pages
        if not 0 <= page < len(pages) or pages[page] is None:
            raise NoPage(page)

    def _check_seat(self, seat):
        """Raise NoSeat if the seat is not there."""
        if not 0 <= seat < len(self._scenes[0].records):
            raise NoSeat(seat)

    def _check_words(self, words):
        """Raise BadWords if the words are not one view word of the book for each seat."""
        known = view_words(self._book[0])
        if len(words) != len(self._scenes[0].records) or not all([word in known for word in words]):
            raise BadWords()


class GuardedHouse(House):
    """A house that does no step with a wrong."""

    def _check_step(self, scene):
        """Raise WrongAhead if the last step of this scene has a wrong."""
        if scene.found:
            raise WrongAhead(scene.found[0][1])


def scenes_of(house):
    """Return the list of the scenes of the house: the first one, and the one behind each event of its story."""
    return list(house._scenes)


def check_length(length):
    """Raise BadLength for a time, or a number of moments, that is less than 1."""
    if length < 1:
        raise BadLength(length)


def play(house, events):
    """Do the events on the house, and return the list of what the deeds return."""
    told = []
    for index, event in enumerate(events):
        if not event or (event[0], len(event)) not in EVENT_FORMS:
            raise BadEvent(index)
        told.append(do_event(house, event))
    return told


def what_if(house, events):
    """Return what play would return, and leave the house as it was."""
    return play(house.twin(), events)


def do_event(house, event):
    """Do one event on the house, and return what its deed returns."""
    word = event[0]
    if word == "open":
        return house.open_page(event[1])
    if word == "close":
        return house.close_page(event[1])
    if word == "old":
        words = event[2]
        return house.old_answer(event[1], *words)
    if word == "refresh":
        return house.refresh(event[1])
    if word == "press":
        seats = event[3]
        return house.press(event[1], event[2], *seats)
    if word == "comes":
        return house.comes(event[1], event[2])
    if word == "hear":
        return house.hear(event[1])
    if word == "lose":
        return house.lose(event[1])
    if word == "sweep":
        return house.sweep(event[1], event[2], event[3])
    return house.tick(event[1])
