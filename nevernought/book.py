"""A book of named reckonings and of claims about them."""

from nevernought.alike import shown
from nevernought.errors import BadDeed, BadName, BadWord, Breaks, Full, InUse, Missing, NeverError, NoName, NotSo
from nevernought.errors import NothingLeft, Ring, Stopped, Taken
from nevernought.formulas import formula_text, in_order, leaning_on, names_in, read_formula, sound_term
from nevernought.terms import is_name

MOST_LINES = 12
MOST_CLAIMS = 8
# How many texts each deed has, its word being the first.
DEEDS = {"line": 3, "claim": 5, "drop": 2}
CLAIM_WORDS = ("alike", "unlike")


class Standing:
    """What stands in a book at a time; it is never changed.

    By the names of lines there are the pieces of their formulas and their reckonings, by those of claims triples.
    """

    def __init__(self, formulas, terms, sayings):
        self.formulas = formulas
        self.terms = terms
        self.sayings = sayings


def paper_of(terms, saying):
    """What shows whether the lines of a claim are alike."""
    return shown(("less", terms[saying[1]], terms[saying[2]]), "alike", "unlike")


def is_so(terms, saying):
    """Whether a claim is so."""
    return paper_of(terms, saying)[0] == saying[0]


def need_name(name):
    """BadName where a text can't be a name."""
    if not is_name(name):
        raise BadName(name)


def need_line(standing, name):
    """NoName where there is no such line."""
    if name not in standing.formulas:
        raise NoName(name)


def need_claim(standing, name):
    """NoName where there is no such claim."""
    if name not in standing.sayings:
        raise NoName(name)


def with_line(standing, name, text):
    """What stands once a line is told; the refusals of [18]."""
    need_name(name)
    if name in standing.sayings:
        raise Taken(name)
    pieces = read_formula(text)
    for other in names_in(pieces):
        need_line(standing, other)
    formulas = {**standing.formulas, name: pieces}
    leaning = leaning_on(formulas, name)
    if name in leaning:
        raise Ring(name)
    if len(formulas) > MOST_LINES:
        raise Full(MOST_LINES)
    return checked(standing, formulas, [name] + leaning)


def checked(standing, formulas, touched):
    """What stands with formulas of which these lines are touched; BadTerm, Unsound, Breaks."""
    terms = dict(standing.terms)
    for name in in_order(formulas, touched):
        terms[name] = sound_term(name, formulas[name], terms)
    for name in sorted(standing.sayings):
        saying = standing.sayings[name]
        # Claims about other lines are as they were.
        if (saying[1] in touched or saying[2] in touched) and not is_so(terms, saying):
            raise Breaks(name)
    return Standing(formulas, terms, standing.sayings)


def with_claim(standing, name, word, one, other):
    """What stands once a claim is made; the refusals of [18]."""
    need_name(name)
    if name in standing.formulas or name in standing.sayings:
        raise Taken(name)
    if word not in CLAIM_WORDS:
        raise BadWord(word)
    need_line(standing, one)
    need_line(standing, other)
    if len(standing.sayings) == MOST_CLAIMS:
        raise Full(MOST_CLAIMS)
    saying = (word, one, other)
    if not is_so(standing.terms, saying):
        raise NotSo()
    return Standing(standing.formulas, standing.terms, {**standing.sayings, name: saying})


def without(standing, name):
    """What stands once a line or a claim is dropped; the refusals of [18]."""
    if name not in standing.formulas and name not in standing.sayings:
        raise NoName(name)
    for other in sorted(standing.formulas):
        if name in names_in(standing.formulas[other]):
            raise InUse(other)
    for other in sorted(standing.sayings):
        if name in standing.sayings[other][1:]:
            raise InUse(other)
    kept = [{key: rows[key] for key in rows if key != name}
            for rows in (standing.formulas, standing.terms, standing.sayings)]
    return Standing(kept[0], kept[1], kept[2])


def is_deed(deed):
    """Whether a thing is a tuple of a deed's word and as many texts more as that has."""
    if not isinstance(deed, tuple) or not all([isinstance(text, str) for text in deed]):
        return False
    return len(deed) > 0 and DEEDS.get(deed[0]) == len(deed)


def after(standing, deed):
    """What stands once a deed is done; BadDeed, and the refusals of [18]."""
    if not is_deed(deed):
        raise BadDeed()
    if deed[0] == "line":
        return with_line(standing, deed[1], deed[2])
    if deed[0] == "claim":
        return with_claim(standing, deed[1], deed[2], deed[3], deed[4])
    return without(standing, deed[1])


class Book:
    """Lines and claims, and the steps that led to them and can be taken back."""

    def __init__(self):
        self.now = Standing({}, {}, {})
        # What stood before each step, and what stood behind each one that was taken back.
        self.past = []
        self.ahead = []

    def step(self, standing):
        """Goes on to what stands behind a step."""
        self.past.append(self.now)
        self.ahead = []
        self.now = standing

    def do(self, deed):
        """Does a deed; BadDeed, and the refusals of [18]."""
        self.step(after(self.now, deed))

    def together(self, deeds):
        """Does several deeds as one step; Stopped."""
        standing = self.now
        for at, deed in enumerate(deeds):
            try:
                standing = after(standing, deed)
            except (NeverError, Missing) as why:
                raise Stopped(at, why.word) from None
        if len(deeds) > 0:
            self.step(standing)

    def undo(self):
        """Takes the last step back; NothingLeft."""
        if not self.past:
            raise NothingLeft()
        self.ahead.append(self.now)
        self.now = self.past.pop()

    def redo(self):
        """Does the step again that was taken back last; NothingLeft."""
        if not self.ahead:
            raise NothingLeft()
        self.past.append(self.now)
        self.now = self.ahead.pop()

    def steps(self):
        """How many steps can be taken back, and how many done again."""
        return (len(self.past), len(self.ahead))

    def names(self):
        """The names of the lines, rising."""
        return sorted(self.now.formulas)

    def claims(self):
        """The names of the claims, rising."""
        return sorted(self.now.sayings)

    def text_of(self, name):
        """The formula of a line as it is written; NoName."""
        need_line(self.now, name)
        return formula_text(self.now.formulas[name])

    def term_of(self, name):
        """The reckoning of a line; NoName."""
        need_line(self.now, name)
        return self.now.terms[name]

    def leaning(self, name):
        """The lines, rising, that lean on a line, through others too; NoName."""
        need_line(self.now, name)
        return leaning_on(self.now.formulas, name)

    def claim(self, name):
        """A claim: its word and the names of two lines; NoName."""
        need_claim(self.now, name)
        return self.now.sayings[name]

    def paper(self, name):
        """What shows a claim; NoName."""
        need_claim(self.now, name)
        return paper_of(self.now.terms, self.now.sayings[name])

    def twin(self):
        """A book that has all of this one, its steps too."""
        told = Book()
        told.now = self.now
        told.past = list(self.past)
        told.ahead = list(self.ahead)
        return told

    def __eq__(self, other):
        return (isinstance(other, Book) and self.now.formulas == other.now.formulas
                and self.now.sayings == other.now.sayings)

    def __len__(self):
        return len([*self.now.formulas, *self.now.sayings])

    def __repr__(self):
        return f"Book({len(self.now.formulas)} lines, {len(self.now.sayings)} claims)"
