"""What machines are made of, in shares, and how it is put together."""

from nevernought.shares import over, plus, times
from nevernought.tables import NOUGHT, ONE, corners, sum_of_products

MINUS_ONE = (-1, 1)


class Build:
    """Letters, rising; a begin, a table for each letter and an end."""

    def __init__(self, order, first, tables, last):
        self.order = order
        self.first = first
        self.tables = tables
        self.last = last

    def table(self, letter):
        """The table of a letter; nought throughout where the letter isn't there."""
        many = len(self.first)
        return self.tables[letter] if letter in self.tables else [[NOUGHT] * many for row in range(many)]


def letters_of_both(one, other):
    """The letters of two builds, each once, rising."""
    return sorted(set(one.order + other.order))


def share_build(by):
    """Weighs the word of none by a share."""
    return Build([], [by], {}, [ONE])


def letter_build(letter):
    """Weighs the word of one letter by 1."""
    return Build([letter], [ONE, NOUGHT], {letter: [[NOUGHT, ONE], [NOUGHT, NOUGHT]]}, [NOUGHT, ONE])


def scaled_row(row, by):
    """A row times a share."""
    return [times(one, by) for one in row]


def other_sign(build):
    """Weighs all words with the other sign."""
    return Build(build.order, scaled_row(build.first, MINUS_ONE), build.tables, build.last)


def sum_build(one, other):
    """Weighs words as both together do."""
    order = letters_of_both(one, other)
    tables = {letter: corners(one.table(letter), other.table(letter)) for letter in order}
    return Build(order, one.first + other.first, tables, one.last + other.last)


def product_table(one, other, letter):
    """The table of a letter, which may be the last one of the word's first part."""
    passing = [sum_of_products(row, one.last) for row in one.table(letter)]
    above = [row + scaled_row(other.first, by) for row, by in zip(one.table(letter), passing)]
    below = [[NOUGHT] * len(one.first) + row for row in other.table(letter)]
    return above + below


def product_build(one, other):
    """Weighs words by all ways to part them between both."""
    order = letters_of_both(one, other)
    tables = {letter: product_table(one, other, letter) for letter in order}
    # The first part may be the word of none.
    first = one.first + scaled_row(other.first, sum_of_products(one.first, one.last))
    return Build(order, first, tables, [NOUGHT] * len(one.first) + other.last)


def undone_table(build, letter, by):
    """The table of a letter for what undoes a build; `by` is 1 over what the word of none weighs, below nought."""
    table = build.table(letter)
    lead = [sum_of_products(build.first, column) for column in zip(*table)]
    told = [[NOUGHT] + scaled_row(lead, by)]
    for row, last in zip(table, build.last):
        off = times(last, by)
        told.append([NOUGHT] + [plus(one, times(off, other)) for one, other in zip(row, lead)])
    return told


def undone_build(build):
    """Weighs words so that its product with the build weighs the word of none by 1, and no other; ByNought."""
    # Were z all that the build's rooms weigh behind an undoing y, then z = e*y + A*z and b*z = 1,
    # so y = (1 - b*A*z)/c and z = (e + (c - e*b)*A*z)/c, c being b*e.
    weight = sum_of_products(build.first, build.last)
    by = over(MINUS_ONE, weight)
    tables = {letter: undone_table(build, letter, by) for letter in build.order}
    first = [ONE] + [NOUGHT] * len(build.first)
    last = [over(ONE, weight)] + scaled_row(build.last, over(ONE, weight))
    return Build(build.order, first, tables, last)
