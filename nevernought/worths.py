"""What a reckoning comes to at tables that are put for its letters."""

from nevernought.errors import BadTables, NoLetter
from nevernought.terms import letters_of, need_term, parts_of
from nevernought.wholes import table_of, whole_back, whole_of, whole_product, whole_sum, whole_unit


def size_of(tables):
    """The one size of all tables, 1 where there is none; BadTables."""
    size = 1
    for at, letter in enumerate(sorted(tables)):
        if at == 0:
            size = len(tables[letter])
        elif len(tables[letter]) != size:
            raise BadTables(letter)
    return size


def need_letters(found, tables):
    """NoLetter of the first letter without a table."""
    for letter in found:
        if letter not in tables:
            raise NoLetter(letter)


class Work:
    """Reckonings worked out at given tables, up to the first undoing from within that has no worth."""

    def __init__(self, tables):
        self.size = size_of(tables)
        self.wholes = {letter: whole_of(tables[letter]) for letter in tables}
        # The place of the undoing without a worth, and the worth of its thing.
        self.stuck = None
        self.stuck_on = None

    def out(self, term, place):
        """The worth, as a pair of whole numbers, of a part at a place; None behind a stuck undoing."""
        word = term[0]
        if word == "share":
            return whole_unit(self.size, term[1])
        if word == "letter":
            return self.wholes[term[1]]
        one = self.out(term[1], place + 1)
        if one is None:
            return None
        if word == "undo":
            return self.back(one, place)
        other = self.out(term[2], place + 1 + len(parts_of(term[1])))
        if other is None:
            return None
        if word == "times":
            return whole_product(one, other)
        return whole_sum(one, other, 1 if word == "plus" else -1)

    def back(self, one, place):
        """What turns the worth of an undoing's thing back; None where nothing does."""
        told = whole_back(one)
        if told is None:
            self.stuck = place
            self.stuck_on = one
        return told


def worth_at(term, tables):
    """The worth of what is built as a reckoning, a table or None; BadTables, NoLetter."""
    work = Work(tables)
    need_letters(letters_of(term), tables)
    told = work.out(term, 0)
    return None if told is None else table_of(told)


def worth(term, tables):
    """The worth of a reckoning, a table or None; BadTerm, BadTables, NoLetter."""
    need_term(term)
    return worth_at(term, tables)
