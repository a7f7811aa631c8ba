"""Scenes: what a house is at one moment, and the scene behind each of its events.

A scene that stands in a story never changes, so that twins may share it, and
scenes may share their lists and dicts: each function here returns a new scene,
with a new list or dict in the place of each one that is unlike. The errors of
deeds are the house's.
"""

from onehold.seats import FIRST_RECORD, done_record, failed_looks, past_behind, view_of, wrongs_of


class Scene:
    """What a house is at one moment.

    events is how many have happened, letters how many have been sent. records and
    pasts have those of each seat, noted the tuple of (index, wrong) of its steps so far.
    pages has a visitor and the shown views for each page, None for a closed one.
    going has (page, visitor, row, seats, views) for each letter that is on its
    way to the house; one that asks to refresh has the row None and no seats.
    answers has a page and the views for each answer on its way.
    refusals has the tuple of (seat, look) for each letter that was refused.
    found has (seat, wrong) for the wrongs of the last event alone.
    """

    def __init__(self, events, moment, records, pasts, noted, pages, letters, going, answers, refusals):
        self.events = events
        self.moment = moment
        self.records = records
        self.pasts = pasts
        self.noted = noted
        self.pages = pages
        self.letters = letters
        self.going = going
        self.answers = answers
        self.refusals = refusals
        self.found = []

    def copied(self):
        """Return the scene behind one event more, of which nothing else is told yet."""
        return Scene(
            self.events + 1,
            self.moment,
            self.records,
            self.pasts,
            self.noted,
            self.pages,
            self.letters,
            self.going,
            self.answers,
            self.refusals,
        )


def first_scene(seats):
    """Return the scene of a house with so many seats ahead of all events."""
    return Scene(0, 0, [FIRST_RECORD] * seats, [()] * seats, [()] * seats, [], 0, {}, {}, {})


def views_for(scene, visitor):
    """Return the tuple of the views of all seats that the visitor sees."""
    return tuple([view_of(record, visitor) for record in scene.records])


def with_page(scene, visitor):
    """Return the scene behind the opening of a page."""
    new = scene.copied()
    new.pages = [*scene.pages, (visitor, views_for(scene, visitor))]
    return new


def without_page(scene, page):
    """Return the scene behind the closing of a page."""
    new = scene.copied()
    new.pages = list(scene.pages)
    new.pages[page] = None
    new.answers = {letter: answer for letter, answer in scene.answers.items() if answer[0] != page}
    return new


def with_views(scene, page, views):
    """Return the scene in which the page shows the views."""
    new = scene.copied()
    new.pages = list(scene.pages)
    new.pages[page] = (scene.pages[page][0], views)
    return new


def with_letter(scene, page, row, seats):
    """Return the scene behind the sending of a letter; its number is that of the letters ahead of it."""
    new = scene.copied()
    visitor, views = scene.pages[page]
    new.going = {**scene.going, scene.letters: (page, visitor, row, seats, views)}
    new.letters = scene.letters + 1
    return new


def with_answer(scene, kinds, letter, length):
    """Return the scene in which the letter has come to the house."""
    new = scene.copied()
    page, visitor, row, seats, views = scene.going[letter]
    new.going = without_key(scene.going, letter)
    failed = failed_seats(scene, row, seats, visitor, views)
    if failed:
        new.refusals = {**scene.refusals, letter: tuple(failed)}
    else:
        do_row(new, kinds, row, seats, visitor, length)
    if new.pages[page] is not None:
        new.answers = {**scene.answers, letter: (page, views_for(new, visitor))}
    return new


def with_heard(scene, letter):
    """Return the scene in which the answer of the letter has reached its page."""
    page, views = scene.answers[letter]
    new = with_views(scene, page, views)
    new.answers = without_key(scene.answers, letter)
    return new


def without_letter(scene, letter):
    """Return the scene in which the letter, or its answer, is lost."""
    new = scene.copied()
    if letter in scene.going:
        new.going = without_key(scene.going, letter)
    else:
        new.answers = without_key(scene.answers, letter)
    return new


def with_sweep(scene, kinds, row, seat, length):
    """Return the scene behind a sweep that is done."""
    new = scene.copied()
    do_row(new, kinds, row, (seat,), None, length)
    return new


def with_moments(scene, moments):
    """Return the scene so many moments later."""
    new = scene.copied()
    new.moment = scene.moment + moments
    return new


def without_key(table, key):
    """Return a copy of the dict without one of its keys."""
    other = dict(table)
    other.pop(key)
    return other


def failed_seats(scene, row, seats, visitor, views):
    """Return the list of (seat, look) of what keeps the row from being done at the seats."""
    return [
        (seat, look)
        for seat in seats
        for look in failed_looks(row, scene.records[seat], visitor, views[seat], scene.moment)
    ]


def can_sweep(scene, row, seat):
    """Tell whether a sweep that comes to the seat is done."""
    return not failed_looks(row, scene.records[seat], None, None, scene.moment)


def do_row(scene, kinds, row, seats, sender, length):
    """Do the step of the row at each of the seats of this scene, which is new."""
    if not seats:
        return
    scene.records = list(scene.records)
    scene.pasts = list(scene.pasts)
    for seat in seats:
        ahead = scene.records[seat]
        behind = done_record(kinds, row, ahead, sender, scene.moment + length)
        scene.records[seat] = behind
        scene.pasts[seat] = past_behind(scene.pasts[seat], ahead, behind)
        add_wrongs(scene, seat, wrongs_of(kinds, ahead, behind, sender, scene.moment))


def add_wrongs(scene, seat, wrongs):
    """Note the wrongs of the last step, which was done at the seat of this new scene."""
    if not wrongs:
        return
    scene.found.extend([(seat, wrong) for wrong in wrongs])
    scene.noted = list(scene.noted)
    scene.noted[seat] = (*scene.noted[seat], *[(scene.events - 1, wrong) for wrong in wrongs])
