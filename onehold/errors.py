"""The errors of the program, each one directly below HoldError."""


class HoldError(ValueError):
    """The base class of all errors of the program."""


class InvalidStates(HoldError):
    """A state of a book breaks the form of states."""

    def __init__(self, index):
        super().__init__(f"state {index} breaks the form of states")
        self.index = index


class InvalidRow(HoldError):
    """A row of a book breaks the form of rows."""

    def __init__(self, index, part):
        super().__init__(f"row {index} breaks the form of rows: {part}")
        self.index = index
        self.part = part


class InvalidText(HoldError):
    """A text is not the text of a book."""

    def __init__(self, line):
        super().__init__(f"no text of a book has line {line} there")
        self.line = line


class BadWrong(HoldError):
    """A wrong is unknown, or is named where it cannot stand."""

    def __init__(self, index):
        super().__init__(f"wrong {index} cannot stand there")
        self.index = index


class BadWorld(HoldError):
    """A world is neither late nor fresh."""

    def __init__(self, world):
        super().__init__(f"no such world: {world}")
        self.world = world


class NoSeat(HoldError):
    """A seat is not there."""

    def __init__(self, seat):
        super().__init__(f"no such seat: {seat}")
        self.seat = seat


class NoPage(HoldError):
    """No such page is open."""

    def __init__(self, page):
        super().__init__(f"no such page is open: {page}")
        self.page = page


class NoRow(HoldError):
    """A book has no such row, or none of the kind that is needed."""

    def __init__(self, name):
        super().__init__(f"no such row: {name}")
        self.name = name


class BadBasket(HoldError):
    """A letter is for no seat, or for one seat twice."""

    def __init__(self):
        super().__init__("a letter names one or more seats, none twice")


class NotShown(HoldError):
    """A page does not show a seat as the row asks."""

    def __init__(self, seat):
        super().__init__(f"the row is not sent in sight of what is shown of seat {seat}")
        self.seat = seat


class BadWords(HoldError):
    """The words of an old answer do not fit the house."""

    def __init__(self):
        super().__init__("an old answer has one view word of the book for each seat")


class NoLetter(HoldError):
    """No such letter is there."""

    def __init__(self, letter):
        super().__init__(f"no such letter: {letter}")
        self.letter = letter


class NoAnswer(HoldError):
    """No such answer is on its way."""

    def __init__(self, letter):
        super().__init__(f"no answer on its way: {letter}")
        self.letter = letter


class BadLength(HoldError):
    """A length of time is less than 1."""

    def __init__(self, length):
        super().__init__(f"less than 1: {length}")
        self.length = length


class NothingToUndo(HoldError):
    """The story of a house has no event."""

    def __init__(self):
        super().__init__("the story has no event")


class BadEvent(HoldError):
    """A tuple is no event."""

    def __init__(self, index):
        super().__init__(f"event {index} is no event")
        self.index = index


class WrongAhead(HoldError):
    """A guarded house does not do a step with a wrong."""

    def __init__(self, wrong):
        super().__init__(f"the step would be done with a wrong: {wrong}")
        self.wrong = wrong


class InvalidSituation(HoldError):
    """A tuple is no situation of the book."""

    def __init__(self):
        super().__init__("no situation of the book")


class NotDone(HoldError):
    """A tuple is no step at the situation."""

    def __init__(self):
        super().__init__("no step at the situation")


class BadPages(HoldError):
    """A number of pages is not 1, 2 or 3."""

    def __init__(self, pages):
        super().__init__(f"not 1, 2 or 3 pages: {pages}")
        self.pages = pages


class BadMost(HoldError):
    """A greatest number of looks is not 0, 1 or 2."""

    def __init__(self, most):
        super().__init__(f"not 0, 1 or 2 looks: {most}")
        self.most = most


class HasWrong(HoldError):
    """A book has a wrong that it should not have."""

    def __init__(self, wrong):
        super().__init__(f"the book has a wrong: {wrong}")
        self.wrong = wrong


class UnlikeStates(HoldError):
    """Two books have unlike states."""

    def __init__(self):
        super().__init__("the books have unlike states")


class BadLook(HoldError):
    """A look cannot be put into a row, or taken out of it."""

    def __init__(self, name, look):
        super().__init__(f"not for row {name}: {look}")
        self.name = name
        self.look = look
