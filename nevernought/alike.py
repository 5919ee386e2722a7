"""Whether a reckoning is nought, whether two are alike, and what shows it."""

from nevernought.errors import Unsound
from nevernought.rooms import is_lesser_room
from nevernought.sound import sound_paper, worth_or_none
from nevernought.tables import NOUGHT
from nevernought.terms import need_term
from nevernought.webs import web_of


def need_sound(terms):
    """BadTerm of any of these, then Unsound of the first that isn't sound."""
    for term in terms:
        need_term(term)
    for which, term in enumerate(terms):
        paper = sound_paper(term)
        if paper[0] == "unsound":
            raise Unsound(which, paper[1])


def shown(term, so, otherwise):
    """The pair that shows that something sound is nought, or that it isn't."""
    # It is nought just where it can't be undone anywhere, and then that is its only flaw.
    paper = sound_paper(("undo", term))
    if paper[0] == "unsound":
        return (so, paper[2])
    return (otherwise, paper[1])


def nought(term):
    """The paper that shows that a reckoning is nought, or that it isn't; BadTerm, Unsound."""
    need_sound([term])
    return shown(term, "nought", "else")


def alike(one, other):
    """The paper that shows that two reckonings are alike, or that they aren't; BadTerm, Unsound."""
    need_sound([one, other])
    return shown(("less", one, other), "alike", "unlike")


def commute(one, other):
    """Whether the products of two reckonings both ways are alike; BadTerm, Unsound."""
    need_sound([one, other])
    difference = ("less", ("times", one, other), ("times", other, one))
    return shown(difference, "alike", "unlike")[0] == "alike"


def holds(term, paper, so, otherwise):
    """Whether such a pair shows that something sound is nought, or that it isn't."""
    if paper[0] == so and not isinstance(paper[1], dict):
        return is_lesser_room(web_of(term), paper[1])
    if paper[0] == otherwise and isinstance(paper[1], dict):
        told = worth_or_none(term, paper[1])
        return told is not None and any([one != NOUGHT for row in told for one in row])
    return False


def nought_holds(term, paper):
    """Whether a paper shows that a reckoning is nought, or that it isn't; BadTerm, Unsound."""
    need_sound([term])
    return holds(term, paper, "nought", "else")


def alike_holds(one, other, paper):
    """Whether a paper shows that two reckonings are alike, or that they aren't; BadTerm, Unsound."""
    need_sound([one, other])
    return holds(("less", one, other), paper, "alike", "unlike")
