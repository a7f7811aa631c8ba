"""Roads: the same deeds brought about by many pages, by late letters alone, or by late answers alone.

A deed of a house with one seat is an event ("tick", ..) or ("sweep", ..) that
does something, or a Letter, which is done. The turn of the seat counts the
letters and sweeps.
"""

OLD_TURN = -1


class Letter:
    """A letter that is done: its visitor, its row's name, its length and the view that its page showed.

    The view is the word, and the turn at which the seat was seen so; OLD_TURN for an old answer.
    """

    def __init__(self, visitor, name, length, word, turn):
        self.visitor = visitor
        self.name = name
        self.length = length
        self.word = word
        self.turn = turn


class Road:
    """Events that are put together: pages, then letters, are numbered as they come."""

    def __init__(self):
        self.events = []
        self.many_pages = 0
        self.many_letters = 0

    def start(self, letters):
        """Do what has to be done for these letters ahead of the first deed."""

    def see(self, letters):
        """Do what has to be done for these letters, which need a view of this turn."""

    def bring(self, letter):
        """Let the letter come."""

    def open_page(self, visitor):
        """Open a page, and return its number."""
        self.events.append(("open", visitor))
        self.many_pages += 1
        return self.many_pages - 1

    def show_old(self, page, letter):
        """Let an old answer show on the page what the letter needs."""
        self.events.append(("old", page, (letter.word,)))

    def press(self, page, letter):
        """Send the letter, and return its number."""
        return self.sent(("press", page, letter.name, (0,)))

    def sent(self, event):
        """Send a letter by this event, and return its number."""
        self.events.append(event)
        self.many_letters += 1
        return self.many_letters - 1


class PageRoad(Road):
    """Each letter has a page of its own, which is opened when it shows what the letter needs; nothing is late."""

    def __init__(self):
        super().__init__()
        self.pages = {}

    def see(self, letters):
        """Open the pages."""
        for letter in letters:
            self.pages[letter] = self.open_page(letter.visitor)

    def bring(self, letter):
        """Send the letter from its page, and hear its answer."""
        if letter.turn == OLD_TURN:
            self.pages[letter] = self.open_page(letter.visitor)
            self.show_old(self.pages[letter], letter)
        number = self.press(self.pages[letter], letter)
        self.events.extend([("comes", number, letter.length), ("hear", number)])


class ShortPageRoad(PageRoad):
    """As PageRoad, but each page is closed as soon as its letter is done."""

    def bring(self, letter):
        """Send the letter from its page, hear its answer, and close the page."""
        super().bring(letter)
        self.events.append(("close", self.pages[letter]))


class LetterRoad(Road):
    """Each visitor has one page; letters are sent when it shows what they need, and are late."""

    def __init__(self):
        super().__init__()
        self.pages = {}
        self.numbers = {}

    def start(self, letters):
        """Open the pages, and send what is sent in the sight of old answers."""
        for letter in letters:
            if letter.visitor not in self.pages:
                self.pages[letter.visitor] = self.open_page(letter.visitor)
        for letter in letters:
            if letter.turn == OLD_TURN:
                self.show_old(self.pages[letter.visitor], letter)
                self.numbers[letter] = self.press(self.pages[letter.visitor], letter)

    def see(self, letters):
        """Ask for the views, and send the letters."""
        for letter in letters:
            page = self.pages[letter.visitor]
            number = self.sent(("refresh", page))
            self.events.extend([("comes", number, 1), ("hear", number)])
            self.numbers[letter] = self.press(page, letter)

    def bring(self, letter):
        """Let the letter come at last, and hear its answer."""
        number = self.numbers[letter]
        self.events.extend([("comes", number, letter.length), ("hear", number)])


class AnswerRoad(Road):
    """Each visitor has one page; answers that show what letters need are heard late."""

    def __init__(self):
        super().__init__()
        self.pages = {}
        self.numbers = {}

    def start(self, letters):
        """Open the pages."""
        for letter in letters:
            if letter.visitor not in self.pages:
                self.pages[letter.visitor] = self.open_page(letter.visitor)

    def see(self, letters):
        """Ask for the views, once for each letter; the answers are left on their way."""
        for letter in letters:
            self.numbers[letter] = self.sent(("refresh", self.pages[letter.visitor]))
            self.events.append(("comes", self.numbers[letter], 1))

    def bring(self, letter):
        """Let the answer reach the page at last, and send the letter at once."""
        page = self.pages[letter.visitor]
        if letter.turn == OLD_TURN:
            self.show_old(page, letter)
        else:
            self.events.append(("hear", self.numbers[letter]))
        number = self.press(page, letter)
        self.events.append(("comes", number, letter.length))


def travelled(road, deeds):
    """Return the list of the events by which the road brings the deeds about."""
    letters = [deed for deed in deeds if isinstance(deed, Letter)]
    needed = {}
    for letter in letters:
        needed.setdefault(letter.turn, []).append(letter)
    road.start(letters)
    turn = 0
    road.see(needed.get(turn, []))
    for deed in deeds:
        if isinstance(deed, Letter):
            road.bring(deed)
        else:
            road.events.append(deed)
        if isinstance(deed, Letter) or deed[0] == "sweep":
            turn += 1
            road.see(needed.get(turn, []))
    return road.events
