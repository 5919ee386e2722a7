"""Reckonings made of others: put, nudged, turned."""

from nevernought.terms import need_term, things_in

NOTHING = ("share", (0, 1))


def told_of(term):
    """What came of a change; BadTerm where that is no reckoning."""
    need_term(term)
    return term


def with_put(term, by):
    """A part with reckonings in the places of letters."""
    if term[0] == "letter":
        return by.get(term[1], term)
    if term[0] == "share":
        return term
    things = [with_put(thing, by) for thing in things_in(term)]
    return (term[0], *things)


def put(term, by):
    """The reckoning with others put for letters, all at once; BadTerm."""
    need_term(term)
    for letter in sorted(by):
        need_term(by[letter])
    return told_of(with_put(term, by))


def nudge(term, letter, by):
    """A part nudged at a letter."""
    word = term[0]
    if word == "share":
        return NOTHING
    if word == "letter":
        return by if term[1] == letter else NOTHING
    one = nudge(term[1], letter, by)
    if word == "undo":
        return ("less", NOTHING, ("times", term, ("times", one, term)))
    other = nudge(term[2], letter, by)
    if word == "times":
        return ("plus", ("times", one, term[2]), ("times", term[1], other))
    return (word, one, other)


def nudged(term, letter, *, by=("share", (1, 1))):
    """The reckoning nudged by another one at a letter; BadTerm."""
    need_term(term)
    need_term(by)
    return told_of(nudge(term, letter, by))


def turn(term):
    """A part with the things of each product the other way about."""
    things = [turn(thing) for thing in things_in(term)]
    if term[0] == "times":
        things = things[::-1]
    return (term[0], *things) if things else term


def turned(term):
    """The reckoning with the things of each product the other way about; BadTerm."""
    need_term(term)
    return told_of(turn(term))
