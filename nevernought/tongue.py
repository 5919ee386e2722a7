"""How reckonings are written and read."""

from nevernought.errors import BadShare, BadText
from nevernought.shares import FIGURES, read_share, share_text
from nevernought.terms import CAPITALS, MOST_SIGNS, SMALL_LETTERS, is_name, need_term

MOST_BRACKETS = 12
BRACKET = "("
# How fast each kind of part holds together: what stands within faster ones needs brackets.
HOLDS = {"(": 0, "plus": 1, "less": 1, "times": 2, "undo": 3, "share": 4, "letter": 4, "name": 4}
SIGNS = {"plus": " + ", "less": " - ", "times": "*"}
WORDS = {"+": "plus", "-": "less", "*": "times"}


def term_text(term):
    """The reckoning as it is written; BadTerm."""
    need_term(term)
    return written(term, True)


def written(term, first):
    """The part as written; `first` where nothing but the text's begin or a bracket stands ahead."""
    word = term[0]
    if word == "letter" or word == "name":
        return term[1]
    if word == "share":
        text = share_text(term[1])
        return text if first or term[1][0] >= 0 else f"({text})"
    if word == "undo":
        return "~" + held(term[1], HOLDS[word], False)
    # Equal signs go from the left, so the second thing has to hold faster than its sign.
    return held(term[1], HOLDS[word], first) + SIGNS[word] + held(term[2], HOLDS[word] + 1, False)


def held(term, least, first):
    """The part as written, in brackets where it holds less fast than it must."""
    if HOLDS[term[0]] < least:
        return "(" + written(term, True) + ")"
    return written(term, first)


class Reading:
    """A text on its way to be a reckoning, or a formula with names: parts that are done, signs that wait for theirs."""

    def __init__(self, text, named):
        self.text = text
        self.named = named
        self.spot = 0
        self.done = []
        self.waiting = []
        self.brackets = 0
        # Whether nothing but blanks stands between the spot and the text's begin or an opening bracket.
        self.fresh = True

    def ended(self):
        """Whether nothing but blanks was left; the spot goes past them."""
        while self.spot < len(self.text) and self.text[self.spot] == " ":
            self.spot += 1
        return self.spot == len(self.text)

    def run(self, signs, start):
        """The longest run of such signs from a place on, and where it ends."""
        last = start
        while last < len(self.text) and self.text[last] in signs:
            last += 1
        return self.text[start:last], last

    def read_first(self):
        """Reads one sign or run where a reckoning is wanted: whether the reckoning stands then; BadText."""
        if self.ended():
            raise BadText(self.spot)
        sign = self.text[self.spot]
        fresh = self.fresh
        self.fresh = sign == "("
        if sign == "(":
            if self.brackets == MOST_BRACKETS:
                raise BadText(self.spot)
            self.brackets += 1
            self.waiting.append(BRACKET)
            self.spot += 1
            return False
        if sign == "~":
            self.waiting.append("undo")
            self.spot += 1
            return False
        if sign in SMALL_LETTERS:
            self.read_letter()
        elif sign in CAPITALS and self.named:
            self.read_name()
        else:
            self.read_number(fresh)
        return True

    def read_letter(self):
        """Reads a letter; BadText."""
        letter, last = self.run(SMALL_LETTERS, self.spot)
        if len(letter) > MOST_SIGNS:
            raise BadText(self.spot)
        self.done.append(("letter", letter))
        self.spot = last

    def read_name(self):
        """Reads a name; BadText."""
        last = self.run(SMALL_LETTERS, self.spot + 1)[1]
        name = self.text[self.spot:last]
        if not is_name(name):
            raise BadText(self.spot)
        self.done.append(("name", name))
        self.spot = last

    def read_number(self, fresh):
        """Reads a share, with its minus where that may stand; BadText."""
        start = self.spot
        if self.text[start] == "-":
            if not fresh:
                raise BadText(start)
            start += 1
        last = self.run(FIGURES + "/", start)[1]
        # Signs that can't stand here at all make an empty run, which is no share either.
        try:
            self.done.append(("share", read_share(self.text[self.spot:last])))
        except BadShare:
            raise BadText(self.spot) from None
        self.spot = last

    def read_next(self):
        """Reads the sign at the spot, behind a reckoning: whether a reckoning stands then, too; BadText."""
        sign = self.text[self.spot]
        if sign == ")" and self.brackets > 0:
            self.settle(HOLDS[BRACKET] + 1)
            self.waiting.pop()
            self.brackets -= 1
            self.spot += 1
            return True
        if sign not in WORDS:
            raise BadText(self.spot)
        word = WORDS[sign]
        self.settle(HOLDS[word])
        self.waiting.append(word)
        self.spot += 1
        return False

    def settle(self, least):
        """Sets all signs behind their things that hold at least so fast and wait on top."""
        while self.waiting and HOLDS[self.waiting[-1]] >= least:
            self.done.append((self.waiting.pop(),))

    def read(self):
        """All of the text: parts and signs, each sign behind its things; BadText."""
        stands = False
        while not stands or not self.ended():
            stands = self.read_next() if stands else self.read_first()
        if self.brackets > 0:
            raise BadText(len(self.text))
        self.settle(HOLDS[BRACKET] + 1)
        return self.done


def built(pieces):
    """The reckoning of parts and signs, each sign behind its things."""
    terms = []
    for piece in pieces:
        # A sign stands alone, a part has something in it.
        if len(piece) > 1:
            terms.append(piece)
        else:
            many = 1 if piece[0] == "undo" else 2
            things = terms[-many:]
            del terms[-many:]
            terms.append((piece[0], *things))
    return terms[0]


def read_term(text):
    """The reckoning that a text tells; BadText, BadTerm."""
    term = built(Reading(text, False).read())
    need_term(term)
    return term
