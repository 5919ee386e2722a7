"""Formulas of lines: reckonings with names in them, kept as pieces, each sign behind its things."""

from nevernought.errors import BadTerm, Unsound
from nevernought.sound import sound_paper
from nevernought.terms import flaw_of
from nevernought.tongue import Reading, built, written


def read_formula(text):
    """The pieces of the formula that a text tells; BadText."""
    # However long the text is, pieces don't lie within one another.
    return Reading(text, True).read()


def formula_text(pieces):
    """The formula as it is written."""
    return written(built(pieces), True)


def names_in(pieces):
    """The names in a formula as they stand in its text."""
    return [piece[1] for piece in pieces if piece[0] == "name"]


def filled(pieces, terms):
    """The formula with reckonings in the places of its names."""
    return built([terms[piece[1]] if piece[0] == "name" else piece for piece in pieces])


def sound_term(name, pieces, terms):
    """The reckoning of a line, the reckonings of lines that it leans on being told; BadTerm, Unsound."""
    term = filled(pieces, terms)
    flaw = flaw_of(term)
    if flaw is not None:
        raise BadTerm(flaw)
    paper = sound_paper(term)
    if paper[0] == "unsound":
        raise Unsound(name, paper[1])
    return term


def leaning_on(formulas, name):
    """The lines, rising, that lean on a name, through others too."""
    found = {}
    waiting = [name]
    while waiting:
        ground = waiting.pop()
        for other in formulas:
            if other not in found and ground in names_in(formulas[other]):
                found[other] = True
                waiting.append(other)
    return sorted(found)


def in_order(formulas, names):
    """These lines, each behind those of them that it leans on, else by names."""
    left = sorted(names)
    told = []
    while left:
        free = [name for name in left if not any([other in left for other in names_in(formulas[name])])]
        told.append(free[0])
        left.remove(free[0])
    return told
