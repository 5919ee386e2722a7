"""Steady reckonings: the words they weigh, and the least machine that weighs as they do."""

from nevernought.builds import letter_build, other_sign, product_build, share_build, sum_build, undone_build
from nevernought.errors import BadNumber, Unsteady
from nevernought.machines import machine_from
from nevernought.scales import comes_to_an_end, least_build, scales_of, words_weighed
from nevernought.tables import NOUGHT
from nevernought.terms import letters_of, need_term
from nevernought.worths import Work

MOST_LONG = 5


def need_steady(term):
    """Unsteady where an undoing has no worth at noughts."""
    work = Work({letter: [[NOUGHT]] for letter in letters_of(term)})
    if work.out(term, 0) is None:
        raise Unsteady(work.stuck)


def build_of(term):
    """A build that weighs words as what is steady does."""
    word = term[0]
    if word == "share":
        return share_build(term[1])
    if word == "letter":
        return letter_build(term[1])
    one = build_of(term[1])
    if word == "undo":
        return undone_build(one)
    other = build_of(term[2])
    if word == "times":
        return product_build(one, other)
    return sum_build(one, other if word == "plus" else other_sign(other))


def least_of(term):
    """The build of the least machine of a reckoning; Unsteady."""
    need_steady(term)
    return least_build(scales_of(build_of(term)))


def machine_of(term):
    """The least machine that weighs words as a reckoning does; BadTerm, Unsteady."""
    need_term(term)
    return machine_from(least_of(term))


def weights(term, *, most=3):
    """All words of at most so many letters other than nought, with their weights; BadTerm, BadNumber, Unsteady."""
    need_term(term)
    if not 0 <= most <= MOST_LONG:
        raise BadNumber(most)
    return words_weighed(scales_of(least_of(term)), most)


def plain(term):
    """All words other than nought, with their weights, or None where there is no end of them; BadTerm, Unsteady."""
    need_term(term)
    scales = scales_of(least_of(term))
    if not comes_to_an_end(scales):
        return None
    return words_weighed(scales, len(scales.last[0]))
