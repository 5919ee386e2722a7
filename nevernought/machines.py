"""Machines that weigh words."""

from nevernought.builds import Build, other_sign, product_build, sum_build
from nevernought.errors import BadMachine, NoLetter
from nevernought.scales import least_build, least_weighed, scales_of, word_line
from nevernought.tables import NOUGHT
from nevernought.terms import is_letter


def need_letters_and_steps(letters, steps):
    """BadMachine where the letters aren't letters, each once, or other ones than those of the steps."""
    if not all([is_letter(letter) for letter in letters]):
        raise BadMachine()
    if len(set(letters)) != len(letters) or len(steps) != len(letters):
        raise BadMachine()
    if any([letter not in steps for letter in letters]):
        raise BadMachine()


def need_lengths(begin, steps, end):
    """BadMachine where these aren't all for equally many rooms."""
    many = len(begin)
    if len(end) != many:
        raise BadMachine()
    for letter in steps:
        if len(steps[letter]) != many or any([len(row) != many for row in steps[letter]]):
            raise BadMachine()


def machine_from(build):
    """The machine of a build."""
    return Machine(build.order, build.first, build.tables, build.last)


class Machine:
    """Rooms with a begin and an end, and a table for each letter that leads from room to room."""

    def __init__(self, letters, begin, steps, end):
        need_letters_and_steps(letters, steps)
        need_lengths(begin, steps, end)
        order = sorted(letters)
        tables = {letter: [list(row) for row in steps[letter]] for letter in order}
        self.build = Build(order, list(begin), tables, list(end))
        self.scales = scales_of(self.build)

    def letters(self):
        """The letters, rising."""
        return list(self.build.order)

    def begin(self):
        """The begin: a list of shares."""
        return list(self.build.first)

    def end(self):
        """The end: a list of shares."""
        return list(self.build.last)

    def steps(self, letter):
        """The table of a letter; NoLetter."""
        if letter not in self.build.tables:
            raise NoLetter(letter)
        return [list(row) for row in self.build.tables[letter]]

    def weight(self, word):
        """What a word weighs: a share."""
        if any([letter not in self.build.tables for letter in word]):
            return NOUGHT
        return self.scales.weighed(word_line(self.scales, word))

    def least(self):
        """The least machine that weighs as this one does."""
        return machine_from(least_build(self.scales))

    def plus(self, other):
        """A machine that weighs words as both together do."""
        return machine_from(sum_build(self.build, other.build))

    def times(self, other):
        """A machine that weighs words by all ways to part them between both."""
        return machine_from(product_build(self.build, other.build))

    def unlike(self, other):
        """The least word that the two weigh unlike, or None."""
        return least_weighed(scales_of(sum_build(self.build, other_sign(other.build))))

    def __eq__(self, other):
        return (isinstance(other, Machine)
                and self.build.order == other.build.order and self.build.first == other.build.first
                and self.build.tables == other.build.tables and self.build.last == other.build.last)

    def __len__(self):
        return len(self.build.first)

    def __repr__(self):
        return f"Machine({len(self.build.first)} rooms, {len(self.build.order)} letters)"
