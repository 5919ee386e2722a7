"""The web of a reckoning: squares, by letters, of the table that holds all its parts at once."""

from nevernought.shares import plus, times
from nevernought.tables import NOUGHT, ONE, unit
from nevernought.terms import letters_of, need_term
from nevernought.worths import need_letters, size_of

FIXED = ""
MINUS_ONE = (-1, 1)


class Strands:
    """A web on its way: how great the inner part is, and what isn't nought in it and in its border.

    `inner` has (row, column, letter, share), `across` (column, letter, share) of the border's row,
    `upright` (row, letter, share) of its column and `corner` (letter, share).
    """

    def __init__(self, many, inner, across, upright, corner):
        self.many = many
        self.inner = inner
        self.across = across
        self.upright = upright
        self.corner = corner

    def moved_inner(self, by):
        return [(row + by, column + by, letter, one) for row, column, letter, one in self.inner]

    def moved_across(self, by):
        return [(column + by, letter, one) for column, letter, one in self.across]

    def moved_upright(self, by):
        return [(row + by, letter, one) for row, letter, one in self.upright]

    def whole(self):
        """All of it, the border as the last row and column: (row, column, letter, share)."""
        last = self.many
        told = list(self.inner)
        told += [(last, column, letter, one) for column, letter, one in self.across]
        told += [(row, last, letter, one) for row, letter, one in self.upright]
        told += [(last, last, letter, one) for letter, one in self.corner]
        return told

    def other_sign(self):
        """The same with the other sign of the border's row and corner."""
        across = [(column, letter, times(one, MINUS_ONE)) for column, letter, one in self.across]
        corner = [(letter, times(one, MINUS_ONE)) for letter, one in self.corner]
        return Strands(self.many, self.inner, across, self.upright, corner)


def strands_beside(one, other):
    """Of a sum."""
    by = one.many
    inner = one.inner + other.moved_inner(by)
    across = one.across + other.moved_across(by)
    upright = one.upright + other.moved_upright(by)
    return Strands(by + other.many, inner, across, upright, one.corner + other.corner)


def strands_behind(one, other):
    """Of a product."""
    by = one.many
    new = by + other.many
    inner = one.inner + other.moved_inner(by) + [(new, new, FIXED, MINUS_ONE)]
    inner += [(new, column, letter, much) for column, letter, much in other.moved_across(by)]
    inner += [(row, new, letter, much) for row, letter, much in one.upright]
    across = one.across + [(new, letter, much) for letter, much in one.corner]
    upright = other.moved_upright(by) + [(new, letter, much) for letter, much in other.corner]
    return Strands(new + 1, inner, across, upright, [])


def strands_of(term):
    """The strands of what is built as a reckoning."""
    word = term[0]
    if word == "share":
        return Strands(0, [], [], [], [(FIXED, term[1])])
    if word == "letter":
        return Strands(0, [], [], [], [(term[1], ONE)])
    one = strands_of(term[1])
    if word == "undo":
        last = one.many
        return Strands(last + 1, one.whole(), [(last, FIXED, MINUS_ONE)], [(last, FIXED, ONE)], [])
    other = strands_of(term[2])
    if word == "plus":
        return strands_beside(one, other)
    if word == "less":
        return strands_beside(one, other.other_sign())
    return strands_behind(one, other)


def blank(size):
    """A square that is nought throughout."""
    return [[NOUGHT] * size for row in range(size)]


def web_from(spots, size, found):
    """The web of a size that has these (row, column, letter, share), all letters being among those found."""
    squares = {letter: blank(size) for letter in [FIXED] + found}
    for row, column, letter, much in spots:
        square = squares[letter]
        square[row][column] = plus(square[row][column], much)
    return {letter: squares[letter] for letter in squares if letter == FIXED or squares[letter] != blank(size)}


def web_of(term):
    """The web of what is built as a reckoning."""
    strands = strands_of(term)
    return web_from(strands.whole(), strands.many + 1, letters_of(term))


def web(term):
    """The web of a reckoning: squares by letters and by the empty text; BadTerm."""
    need_term(term)
    return web_of(term)


def letters_of_web(squares):
    """The letters of a web, rising, the empty text aside."""
    return [letter for letter in sorted(squares) if letter != FIXED]


def lay(told, square, table):
    """Adds to what is laid each share of a square times a table."""
    size = len(table)
    for i, row in enumerate(square):
        for j, by in enumerate(row):
            if by[0] != 0:
                for a, beside in enumerate(table):
                    line = told[i * size + a]
                    for b, one in enumerate(beside):
                        line[j * size + b] = plus(line[j * size + b], times(by, one))


def laid(squares, tables):
    """The web laid at tables: a table; BadTables, NoLetter."""
    size = size_of(tables)
    found = letters_of_web(squares)
    need_letters(found, tables)
    told = blank(len(squares[FIXED]) * size)
    lay(told, squares[FIXED], unit(size))
    for letter in found:
        lay(told, squares[letter], tables[letter])
    return told
