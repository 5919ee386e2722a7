"""Machines in whole numbers: rows and tables are pairs of whole numbers and one bottom for all of them."""

from nevernought.builds import Build
from nevernought.shares import share
from nevernought.spans import Span
from nevernought.sweeping import swept
from nevernought.tables import NOUGHT, ONE
from nevernought.wholes import lowered, whole_line, whole_of


def met(row, column):
    """The sum of the products of numbers that stand at the same place."""
    return sum([a * b for a, b in zip(row, column)])


def led(row, table):
    """A row of numbers times the rows of a table."""
    return [met(row, column) for column in zip(*table)]


def lowered_line(row, bottom):
    """The pair of a row and a bottom without a common divisor."""
    rows, told = lowered([row], bottom)
    return (rows[0], told)


class Scales:
    """Letters, rising; a begin, a table for each letter and an end, all of them as such pairs."""

    def __init__(self, order, first, tables, last):
        self.order = order
        self.first = first
        self.tables = tables
        self.last = last

    def onward(self, line, letter):
        """The row that a letter leads to from a row."""
        table, below = self.tables[letter]
        return lowered_line(led(line[0], table), line[1] * below)

    def weighed(self, line):
        """What a row weighs: a share."""
        return share(met(line[0], self.last[0]), line[1] * self.last[1])


def scales_of(build):
    """The scales of a build."""
    tables = {letter: whole_of(build.tables[letter]) for letter in build.order}
    return Scales(build.order, whole_line(build.first), tables, whole_line(build.last))


def word_line(scales, word):
    """The row that a word leads to."""
    line = scales.first
    for letter in word:
        line = scales.onward(line, letter)
    return line


def ends_seen(scales):
    """Independent rows that all that words can bring the end to is made up of."""
    span = Span()
    waiting = [scales.last[0]]
    while waiting:
        rest = span.take(waiting.pop())
        if rest is not None:
            waiting += [[met(row, rest) for row in scales.tables[letter][0]] for letter in scales.order]
    return span.rows


def narrowed(scales):
    """Scales that weigh the same, in whose rooms the weights of all words behind are independent."""
    width = len(scales.last[0])
    seen = ends_seen(scales)
    if len(seen) == width:
        return scales
    rows, columns = swept(seen, width)
    # Divided by this each row is 1 at its own column, and it is nought at those of the others.
    lead = rows[0][columns[0]] if rows else 1
    first = lowered_line([met(scales.first[0], row) for row in rows], scales.first[1] * lead)
    tables = {}
    for letter in scales.order:
        table, bottom = scales.tables[letter]
        tables[letter] = lowered([[met(table[at], row) for row in rows] for at in columns], bottom * lead)
    return Scales(scales.order, first, tables, ([scales.last[0][at] for at in columns], scales.last[1]))


def one_at(spot, many):
    """So many shares: 1 at the spot, else nought."""
    return [ONE if at == spot else NOUGHT for at in range(many)]


def words_reached(scales, to_the_first):
    """The words, from the least on, whose rows aren't made up of those of lesser ones, and the span of these.

    Where it is wanted so, these are told up to the first one that doesn't weigh nought.
    """
    span = Span()
    words = []
    waiting = [((), scales.first[0])]
    at = 0
    while at < len(waiting):
        word, row = waiting[at]
        rest = span.take(row)
        # What lesser words make up is made up by lesser ones behind any further letter, too.
        if rest is not None:
            words.append(word)
            # As long as lesser words weigh nought what they take off a row weighs nothing.
            if to_the_first and met(rest, scales.last[0]) != 0:
                break
            waiting += [(word + (letter,), led(rest, scales.tables[letter][0])) for letter in scales.order]
        at += 1
    return words, span


def made_up(wanted, lines, leads):
    """For each line that is wanted the shares of lines, independent where they have their leads, that make it up."""
    many = len(lines)
    rows = [[line[0][lead] for line in lines + wanted] for lead in leads]
    told = swept(rows, many)[0]
    lead = told[0][0] if told else 1
    return [[share(told[k][many + at] * lines[k][1], lead * line[1]) for k in range(many)]
            for at, line in enumerate(wanted)]


def least_build(scales):
    """The build of the least machine that weighs as the scales do."""
    scales = narrowed(scales)
    words, span = words_reached(scales, False)
    rows = {word: one_at(at, len(words)) for at, word in enumerate(words)}
    lines = {word: word_line(scales, word) for word in words}
    # Words without rooms of their own, one letter longer than those with rooms.
    beyond = [word + (letter,) for word in words for letter in scales.order if word + (letter,) not in rows]
    wanted = [scales.onward(lines[word[:-1]], word[-1]) for word in beyond]
    for word, row in zip(beyond, made_up(wanted, [lines[word] for word in words], span.leads)):
        rows[word] = row
    tables = {letter: [rows[word + (letter,)] for word in words] for letter in scales.order}
    found = [letter for letter in scales.order if any([one != NOUGHT for row in tables[letter] for one in row])]
    last = [scales.weighed(lines[word]) for word in words]
    return Build(found, one_at(0, len(words)), {letter: tables[letter] for letter in found}, last)


def least_weighed(scales):
    """The least word that doesn't weigh nought, or None."""
    words, span = words_reached(scales, True)
    found = [word for word, row in zip(words, span.rows) if met(row, scales.last[0]) != 0]
    return found[0] if found else None


def words_weighed(scales, most):
    """All words of at most so many letters that don't weigh nought, in their order, with their weights."""
    told = []
    waiting = [((), scales.first)]
    for long in range(most + 1):
        pairs = [(word, scales.weighed(line)) for word, line in waiting]
        told += [(word, weight) for word, weight in pairs if weight != NOUGHT]
        longer = [(word + (letter,), scales.onward(line, letter)) for word, line in waiting for letter in scales.order]
        waiting = [(word, line) for word, line in longer if any(line[0])]
    return told


def comes_to_an_end(scales):
    """Whether the least machine's scales weigh only so many words other than nought."""
    # Then longer and longer words lead to fewer and fewer independent rows, and at last to none.
    rows = [scales.first[0]]
    for room in range(len(scales.last[0])):
        span = Span()
        for row in rows:
            for letter in scales.order:
                span.take(led(row, scales.tables[letter][0]))
        rows = span.rows
    return len(scales.last[0]) == 0 or not rows
