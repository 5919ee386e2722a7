"""Reckonings: tuples of shares, letters, sums, products and undoings."""

from nevernought.errors import BadNumber, BadTerm
from nevernought.shares import common_divisor

MOST_PARTS = 24
MOST_LETTERS = 4
MOST_DEEP = 4
MOST_SIGNS = 6
SMALL_LETTERS = "abcdefghijklmnopqrstuvwxyz"
CAPITALS = "ABCDEFGHIJKLMNOPQRSTUVWXYZ"
TOO_GREAT = 10 ** 12
OF_TWO = ("plus", "less", "times")


def is_number(thing):
    """Whether a thing is a whole number; True and False are none."""
    return isinstance(thing, int) and not isinstance(thing, bool)


def is_share(thing):
    """Whether a thing is a share of at most 12 figures above and below."""
    if not isinstance(thing, tuple) or len(thing) != 2:
        return False
    top, bottom = thing
    if not is_number(top) or not is_number(bottom):
        return False
    if abs(top) >= TOO_GREAT or not 1 <= bottom < TOO_GREAT:
        return False
    return common_divisor(top, bottom) == 1


def is_letter(thing):
    """Whether a thing is a text of 1 to 6 small letters."""
    if not isinstance(thing, str) or not 1 <= len(thing) <= MOST_SIGNS:
        return False
    return all([sign in SMALL_LETTERS for sign in thing])


def is_name(text):
    """Whether a text is a capital letter and none to five small ones."""
    if not 1 <= len(text) <= MOST_SIGNS or text[0] not in CAPITALS:
        return False
    return all([sign in SMALL_LETTERS for sign in text[1:]])


def is_built(thing):
    """Whether a thing is built as a part is, whatever stands in the places of the parts in it."""
    if not isinstance(thing, tuple) or len(thing) < 2:
        return False
    word = thing[0]
    if word in OF_TWO:
        return len(thing) == 3
    if len(thing) != 2:
        return False
    if word == "share":
        return is_share(thing[1])
    if word == "letter":
        return is_letter(thing[1])
    return word == "undo"


def things_in(term):
    """The one or two parts that stand right in a part, or none."""
    if term[0] == "share" or term[0] == "letter":
        return ()
    return term[1:]


def flaw_of(term):
    """What keeps a thing from being a reckoning, `form`, `many`, `letters` or `deep`; None where nothing does."""
    waiting = [(term, 0)]
    many = 0
    deepest = 0
    found = {}
    while waiting:
        thing, deep = waiting.pop()
        if not is_built(thing):
            return "form"
        many += 1
        if thing[0] == "letter":
            found[thing[1]] = True
        if thing[0] == "undo":
            deep += 1
        deepest = max(deepest, deep)
        for inner in things_in(thing):
            waiting.append((inner, deep))
    if many > MOST_PARTS:
        return "many"
    if len(found) > MOST_LETTERS:
        return "letters"
    if deepest > MOST_DEEP:
        return "deep"
    return None


def need_term(term):
    """BadTerm where a thing is no reckoning."""
    flaw = flaw_of(term)
    if flaw is not None:
        raise BadTerm(flaw)


def parts_of(term):
    """All parts of what is built as a reckoning, in the order of their places."""
    told = [term]
    for thing in things_in(term):
        told += parts_of(thing)
    return told


def letters_of(term):
    """The letters of what is built as a reckoning, each once, rising."""
    return sorted({thing[1] for thing in parts_of(term) if thing[0] == "letter"})


def undoings_of(term, place):
    """The places of the undoings, from within, of what is built as a reckoning and stands at the place."""
    told = []
    within = place + 1
    for thing in things_in(term):
        told += undoings_of(thing, within)
        within += len(parts_of(thing))
    if term[0] == "undo":
        told.append(place)
    return told


def parts(term):
    """How many parts a reckoning has; BadTerm."""
    need_term(term)
    return len(parts_of(term))


def part(term, place):
    """The part of a reckoning at a place; BadTerm, BadNumber."""
    need_term(term)
    every = parts_of(term)
    if not 0 <= place < len(every):
        raise BadNumber(place)
    return every[place]


def letters(term):
    """The letters of a reckoning, each once, rising; BadTerm."""
    need_term(term)
    return letters_of(term)


def undoings(term):
    """The places of a reckoning's undoings, from within; BadTerm."""
    need_term(term)
    return undoings_of(term, 0)
