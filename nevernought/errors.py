"""All refusals: each has its class's name as `word`, and the fields it is made with."""


class NeverError(ValueError):
    """What is handed in is refused."""

    def __init__(self, word="NeverError", message="refused"):
        ValueError.__init__(self, message)
        self.word = word


class BadShare(NeverError):
    def __init__(self):
        NeverError.__init__(self, "BadShare", "this is not how a share is written")


class ByNought(NeverError):
    def __init__(self):
        NeverError.__init__(self, "ByNought", "nothing can be divided by nought")


class BadTable(NeverError):
    """`at` is the first row that isn't as long as there are rows."""

    def __init__(self, at):
        NeverError.__init__(self, "BadTable", f"row {at} is not as long as there are rows")
        self.at = at


class Unfit(NeverError):
    def __init__(self):
        NeverError.__init__(self, "Unfit", "the tables have unlike sizes")


class BadTerm(NeverError):
    """`flaw` is `form`, `many`, `letters` or `deep`."""

    def __init__(self, flaw):
        NeverError.__init__(self, "BadTerm", f"this is no reckoning: {flaw}")
        self.flaw = flaw


class BadTables(NeverError):
    """`letter` has a table of another size than the first one's."""

    def __init__(self, letter):
        NeverError.__init__(self, "BadTables", f"the table of {letter!r} has another size")
        self.letter = letter


class BadText(NeverError):
    """`at` is the place of the first sign that can't stand there."""

    def __init__(self, at):
        NeverError.__init__(self, "BadText", f"the text cannot be read at {at}")
        self.at = at


class BadWeb(NeverError):
    """`letter` has a square of another size than the fixed one's."""

    def __init__(self, letter):
        NeverError.__init__(self, "BadWeb", f"the square of {letter!r} has another size")
        self.letter = letter


class BadSquare(NeverError):
    def __init__(self):
        NeverError.__init__(self, "BadSquare", "this is no square of reckonings")


class Unsound(NeverError):
    """`which` reckoning has at `place` an undoing that can be worked out nowhere."""

    def __init__(self, which, place):
        NeverError.__init__(self, "Unsound", f"the undoing at {place} of {which!r} has a worth nowhere")
        self.which = which
        self.place = place


class Unsteady(NeverError):
    """`place` is that of an undoing whose thing is nought at noughts."""

    def __init__(self, place):
        NeverError.__init__(self, "Unsteady", f"the undoing at {place} has no worth at noughts")
        self.place = place


class BadNumber(NeverError):
    """`number` is out of bounds."""

    def __init__(self, number):
        # The number stays out of the message: Python refuses to write very great ones.
        NeverError.__init__(self, "BadNumber", "the number is out of bounds")
        self.number = number


class BadMachine(NeverError):
    def __init__(self):
        NeverError.__init__(self, "BadMachine", "the parts do not make a machine")


class BadName(NeverError):
    def __init__(self, name):
        NeverError.__init__(self, "BadName", f"{name!r} cannot be a name")
        self.name = name


class BadWord(NeverError):
    """`word_told` is the word that was handed in, `word` the refusal's own."""

    def __init__(self, word_told):
        NeverError.__init__(self, "BadWord", f"a claim cannot say {word_told!r}")
        self.word_told = word_told


class Taken(NeverError):
    def __init__(self, name):
        NeverError.__init__(self, "Taken", f"{name!r} is taken")
        self.name = name


class Full(NeverError):
    """`most` is how many there can be."""

    def __init__(self, most):
        NeverError.__init__(self, "Full", f"there are {most} already")
        self.most = most


class Ring(NeverError):
    def __init__(self, name):
        NeverError.__init__(self, "Ring", f"{name!r} would lean on itself")
        self.name = name


class InUse(NeverError):
    """`name` is the line or claim that has what was to go."""

    def __init__(self, name):
        NeverError.__init__(self, "InUse", f"{name!r} has it")
        self.name = name


class Breaks(NeverError):
    """`name` is the claim that would not be so any more."""

    def __init__(self, name):
        NeverError.__init__(self, "Breaks", f"the claim {name!r} would not be so any more")
        self.name = name


class NotSo(NeverError):
    def __init__(self):
        NeverError.__init__(self, "NotSo", "the claim is not so")


class BadDeed(NeverError):
    def __init__(self):
        NeverError.__init__(self, "BadDeed", "this is no deed")


class Stopped(NeverError):
    """`at` is the place of the refused deed, `why` its refusal's word."""

    def __init__(self, at, why):
        NeverError.__init__(self, "Stopped", f"the deed at {at} is refused: {why}")
        self.at = at
        self.why = why


class BadPage(NeverError):
    """`row` is the first row that can't stand there."""

    def __init__(self, row):
        NeverError.__init__(self, "BadPage", f"the page cannot be read at row {row}")
        self.row = row


class Missing(LookupError):
    """What is asked for isn't there."""

    def __init__(self, word="Missing", message="missing"):
        LookupError.__init__(self, message)
        self.word = word


class NoLetter(Missing):
    def __init__(self, letter):
        Missing.__init__(self, "NoLetter", f"there is nothing for the letter {letter!r}")
        self.letter = letter


class NoName(Missing):
    def __init__(self, name):
        Missing.__init__(self, "NoName", f"there is nothing of the name {name!r}")
        self.name = name


class NothingLeft(Missing):
    def __init__(self):
        Missing.__init__(self, "NothingLeft", "there is no step left")
