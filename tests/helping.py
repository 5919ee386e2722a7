"""What several tests need: reckonings at hand, and plain ways to work them out that share nothing with the program."""

from fractions import Fraction
from itertools import product
from math import gcd

PRIME = 1000000007
X, Y, Z, W = (("letter", letter) for letter in ("x", "y", "z", "w"))


def S(top, bottom=1):
    return ("share", (top, bottom))


def plus(one, other):
    return ("plus", one, other)


def less(one, other):
    return ("less", one, other)


def times(one, other):
    return ("times", one, other)


def undo(one):
    return ("undo", one)


def undone(term, many):
    """So many undoings over a term."""
    for _ in range(many):
        term = undo(term)
    return term


def whole(rows):
    """A table of shares from rows of whole numbers."""
    return [[(number, 1) for number in row] for row in rows]


def fractions(rows):
    return [[Fraction(*one) for one in row] for row in rows]


def pairs(rows):
    return [[(worth.numerator, worth.denominator) for worth in row] for row in rows]


def some_share(chance, figures=1):
    while True:
        top, bottom = chance.randint(1 - 10 ** figures, 10 ** figures - 1), chance.randint(1, 10 ** figures - 1)
        if gcd(top, bottom) == 1:
            return (top, bottom)


def some_table(chance, size, most=5):
    return whole([[chance.randint(-most, most) for _ in range(size)] for _ in range(size)])


def some_term(chance, many, names, deep=4, figures=1):
    """A reckoning of just so many parts."""
    while True:
        told = tried_term(chance, many, names, deep, figures)
        if told is not None:
            return told


def tried_term(chance, many, names, deep, figures):
    if many == 1:
        if chance.random() < 0.75:
            return ("letter", chance.choice(names))
        return ("share", some_share(chance, figures)) if chance.random() < 0.5 else S(chance.randint(-2, 2))
    if many == 2 or chance.random() < 0.4:
        within = tried_term(chance, many - 1, names, deep - 1, figures) if deep > 0 else None
        return None if within is None else undo(within)
    ahead = chance.randint(1, many - 2)
    one = tried_term(chance, ahead, names, deep, figures)
    other = tried_term(chance, many - 1 - ahead, names, deep, figures)
    if one is None or other is None:
        return None
    return (chance.choice(["plus", "less", "times", "times"]), one, other)


class Fields:
    """Plain tables of fractions."""

    @staticmethod
    def of(share):
        return Fraction(*share)

    @staticmethod
    def kept(number):
        return number

    @staticmethod
    def back(number):
        return 1 / number


class Residues(Fields):
    """Plain tables of what the prime leaves."""

    @staticmethod
    def of(share):
        return share[0] * pow(share[1], -1, PRIME) % PRIME

    @staticmethod
    def kept(number):
        return number % PRIME

    @staticmethod
    def back(number):
        return pow(number, -1, PRIME)


def plain_product(one, other, field=Fields):
    return [[field.kept(sum(a * b for a, b in zip(row, column))) for column in zip(*other)] for row in one]


def plain_sweep(rows, width, field=Fields):
    """Rows in reduced form, and their lead columns."""
    rows = [list(row) for row in rows]
    leads = []
    for column in range(width):
        place = len(leads)
        at = next((k for k in range(place, len(rows)) if rows[k][column] != 0), None)
        if at is None:
            continue
        rows[place], rows[at] = rows[at], rows[place]
        by = field.back(rows[place][column])
        rows[place] = [field.kept(number * by) for number in rows[place]]
        for k, row in enumerate(rows):
            if k != place and row[column] != 0:
                off = row[column]
                rows[k] = [field.kept(a - off * b) for a, b in zip(row, rows[place])]
        leads.append(column)
    return rows, leads


def plain_rank(rows, field=Fields):
    return len(plain_sweep(rows, len(rows[0]), field)[1]) if rows else 0


def plain_back(one, field=Fields):
    size = len(one)
    doubled = [list(row) + [field.of((int(k == at), 1)) for k in range(size)] for at, row in enumerate(one)]
    rows, leads = plain_sweep(doubled, size, field)
    return [row[size:] for row in rows] if len(leads) == size else None


def plain_worth(term, tables, size, field=Fields):
    """The worth at tables of numbers of the field, or None."""
    word = term[0]
    if word == "share":
        return [[field.of(term[1]) if i == j else field.of((0, 1)) for j in range(size)] for i in range(size)]
    if word == "letter":
        return tables[term[1]]
    worths = [plain_worth(thing, tables, size, field) for thing in term[1:]]
    if None in worths:
        return None
    if word == "undo":
        return plain_back(worths[0], field)
    if word == "times":
        return plain_product(*worths, field)
    sign = 1 if word == "plus" else -1
    return [[field.kept(a + sign * b) for a, b in zip(*rows)] for rows in zip(*worths)]


def thrown_worths(chance, term, names, sizes=(1, 2, 3), tries=3):
    """The worths in residues at tables that were thrown, of these sizes, None among them."""
    for size in sizes:
        for _ in range(tries):
            tables = {name: [[chance.randrange(PRIME) for _ in range(size)] for _ in range(size)] for name in names}
            yield plain_worth(term, tables, size, Residues)


def is_sound(chance, term, names):
    return any(worth is not None for worth in thrown_worths(chance, term, names))


def is_nought(chance, term, names):
    """Of a sound one; right but for those that are nought at sizes 1 to 3 alone."""
    worths = [worth for worth in thrown_worths(chance, term, names) if worth is not None]
    return not any(number for worth in worths for row in worth for number in row)


def plain_made(squares, rows):
    """All products of squares with rows, in fractions."""
    return [[sum((Fraction(*a) * Fraction(*b) for a, b in zip(line, row)), Fraction(0)) for line in square]
            for square in squares.values() for row in rows]


def plain_is_room(squares, rows):
    size = len(squares[""])
    if not rows or any(len(row) != size for row in rows):
        return False
    return plain_rank(fractions(rows)) == len(rows) and plain_rank(plain_made(squares, rows)) < len(rows)


def plain_laid(squares, tables, size):
    """A web laid, in fractions."""
    many = len(squares[""])
    unit = [[Fraction(int(i == j)) for j in range(size)] for i in range(size)]
    told = [[Fraction(0)] * (many * size) for _ in range(many * size)]
    for letter, square in squares.items():
        table = fractions(tables[letter]) if letter else unit
        for i in range(many * size):
            for j in range(many * size):
                told[i][j] += Fraction(*square[i // size][j // size]) * table[i % size][j % size]
    return told


def words_of(names, most):
    """All words of at most so many letters, in the order of words."""
    for many in range(most + 1):
        yield from product(sorted(names), repeat=many)


def plain_weight(begin, steps, end, word):
    """The weight of a word, in fractions, by the begin, the tables of its letters and the end."""
    row = [Fraction(*one) for one in begin]
    for letter in word:
        if letter not in steps:
            return Fraction(0)
        row = [sum((a * Fraction(*b[k]) for a, b in zip(row, steps[letter])), Fraction(0)) for k in range(len(row))]
    return sum((a * Fraction(*b) for a, b in zip(row, end)), Fraction(0))


def plain_least(weight, names, most):
    """Letters, begin, steps and end of the least machine, of at most so many rooms, of what weighs words so.

    Rows are looked at as far as words of so many letters behind.
    """
    behind = list(words_of(names, most))
    row_of = {}

    def row(word):
        if word not in row_of:
            row_of[word] = [weight(word + more) for more in behind]
        return row_of[word]

    def made_up(word, others):
        """The fractions of the others' rows that make up the row, or None."""
        columns = [[*column] for column in zip(*[row(other) for other in others], row(word))]
        rows, leads = plain_sweep(columns, len(others) + 1)
        if len(others) in leads:
            return None
        told = [Fraction(0)] * len(others)
        for at, lead in enumerate(leads):
            told[lead] = rows[at][-1]
        return told

    rooms = []
    for word in words_of(names, most):
        if made_up(word, rooms) is None:
            rooms.append(word)
    steps = {letter: [made_up(word + (letter,), rooms) for word in rooms] for letter in sorted(names)}
    steps = {letter: pairs(steps[letter]) for letter in steps if any(one for line in steps[letter] for one in line)}
    begin = [(int(at == 0), 1) for at in range(len(rooms))]
    return sorted(steps), begin, steps, [(weight(word).numerator, weight(word).denominator) for word in rooms]


def plain_series(term, most):
    """The weights, in fractions, of all words of at most so many letters; None where an undoing's thing is nought there."""
    word = term[0]
    if word == "share":
        return {(): Fraction(*term[1])}
    if word == "letter":
        return {(term[1],): Fraction(1)} if most > 0 else {}
    things = [plain_series(thing, most) for thing in term[1:]]
    if None in things:
        return None
    if word == "undo":
        return series_back(things[0], most)
    one, other = things
    if word == "times":
        told = {}
        for ahead in one:
            for behind in other:
                if len(ahead) + len(behind) <= most:
                    told[ahead + behind] = told.get(ahead + behind, 0) + one[ahead] * other[behind]
        return told
    sign = 1 if word == "plus" else -1
    return {key: one.get(key, Fraction(0)) + sign * other.get(key, Fraction(0)) for key in {**one, **other}}


def series_back(one, most):
    """What has a product with the series that weighs the word of none by 1, and no other."""
    if not one.get((), 0):
        return None
    names = sorted({letter for word in one for letter in word})
    told = {}
    for word in words_of(names, most):
        total = Fraction(int(word == ()))
        for at in range(1, len(word) + 1):
            total -= one.get(word[:at], 0) * told[word[at:]]
        told[word] = total / one[()]
    return told


def some_steady(chance, many, names, deep=4, figures=1):
    """A reckoning of just so many parts that is mostly steady."""
    while True:
        told = tried_steady(chance, many, names, deep, figures)
        if told is not None:
            return told


def tried_steady(chance, many, names, deep, figures):
    if many == 1:
        return ("letter", chance.choice(names)) if chance.random() < 0.7 else ("share", some_share(chance, figures))
    if many == 2 or (many > 3 and chance.random() < 0.4):
        if deep == 0:
            return None
        ahead = ("share", some_share(chance, figures))
        within = ahead if many == 2 else tried_steady(chance, many - 3, names, deep - 1, figures)
        if within is None:
            return None
        return undo(within if many == 2 else less(ahead, within))
    ahead = chance.randint(1, many - 2)
    one = tried_steady(chance, ahead, names, deep, figures)
    other = tried_steady(chance, many - 1 - ahead, names, deep, figures)
    if one is None or other is None:
        return None
    return (chance.choice(["plus", "less", "times", "times"]), one, other)
