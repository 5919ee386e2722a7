"""Whether a reckoning can be worked out anywhere, and what shows it."""

from nevernought.errors import BadTable, BadTables, NoLetter
from nevernought.rooms import is_lesser_room
from nevernought.shrinking import FIRST_PRIMES, room_at, threads_of
from nevernought.tables import need_table
from nevernought.terms import letters_of, need_term, parts_of
from nevernought.trials import TRIES, trial_tables
from nevernought.webs import web_of
from nevernought.wholes import is_nought
from nevernought.worths import Work, worth_at


def sound_paper(term):
    """What shows that something built as a reckoning is sound, or that it isn't."""
    found = letters_of(term)
    steps = 0
    while True:
        stuck = None
        for attempt in range(TRIES):
            tables = trial_tables(found, steps + 1, attempt)
            work = Work(tables)
            if work.out(term, 0) is not None:
                return ("sound", tables)
            if is_nought(work.stuck_on):
                stuck = work.stuck, tables, work.size
        if stuck is not None:
            place, tables, size = stuck
            thing = parts_of(term)[place][1]
            told = room_at(threads_of(web_of(thing)), tables, size, steps % FIRST_PRIMES)
            if told is not None:
                return ("unsound", place, told[1])
        steps += 1


def sound(term):
    """The paper that shows that a reckoning is sound, or that it isn't; BadTerm."""
    need_term(term)
    return sound_paper(term)


def worth_or_none(term, tables):
    """The worth at what may be tables for all letters; None where it has none there or they aren't."""
    try:
        for letter in sorted(tables):
            need_table(tables[letter])
        return worth_at(term, tables)
    except (BadTable, BadTables, NoLetter):
        return None


def sound_holds(term, paper):
    """Whether a paper shows that a reckoning is sound, or that it isn't; BadTerm."""
    need_term(term)
    if len(paper) == 2 and paper[0] == "sound" and isinstance(paper[1], dict):
        return worth_or_none(term, paper[1]) is not None
    if len(paper) == 3 and paper[0] == "unsound":
        every = parts_of(term)
        if 0 <= paper[1] < len(every) and every[paper[1]][0] == "undo":
            return is_lesser_room(web_of(every[paper[1]][1]), paper[2])
    return False
