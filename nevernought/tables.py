"""Tables: lists of rows of shares, each row as long as there are rows."""

from nevernought.errors import BadTable, Unfit
from nevernought.shares import less, plus, share, times
from nevernought.sweeping import swept, whole_row

MOST_SIZE = 4
NOUGHT = (0, 1)
ONE = (1, 1)


def unit(size):
    """The unit of a size."""
    return [[ONE if row == column else NOUGHT for column in range(size)] for row in range(size)]


def need_table(rows):
    """None where these rows are a table; BadTable."""
    if len(rows) == 0:
        raise BadTable(0)
    for at, row in enumerate(rows):
        if len(row) != len(rows):
            raise BadTable(at)


def need_like_sizes(one, other):
    """Unfit where two tables have unlike sizes."""
    if len(one) != len(other):
        raise Unfit()


def added(one, other):
    """The sum of two tables; Unfit."""
    need_like_sizes(one, other)
    return [[plus(a, b) for a, b in zip(row, beside)] for row, beside in zip(one, other)]


def taken(one, other):
    """The first table less the second; Unfit."""
    need_like_sizes(one, other)
    return [[less(a, b) for a, b in zip(row, beside)] for row, beside in zip(one, other)]


def sum_of_products(row, column):
    """The sum of the products of shares that stand at the same place."""
    total = NOUGHT
    for a, b in zip(row, column):
        total = plus(total, times(a, b))
    return total


def product(one, other):
    """The product of two tables in this order; Unfit."""
    need_like_sizes(one, other)
    columns = list(zip(*other))
    return [[sum_of_products(row, column) for column in columns] for row in one]


def scaled(one, by):
    """The table times a share."""
    return [[times(a, by) for a in row] for row in one]


def turned_back(one):
    """The table whose products with this one are the unit, or None."""
    size = len(one)
    doubled = [whole_row([*row, *beside]) for row, beside in zip(one, unit(size))]
    rows, columns = swept(doubled, size)
    if len(columns) < size:
        return None
    lead = rows[0][0]
    return [[share(number, lead) for number in row[size:]] for row in rows]


def rank(one):
    """How many independent rows the table has."""
    columns = swept([whole_row(row) for row in one], len(one))[1]
    return len(columns)


def corners(one, other):
    """Both tables corner to corner, nought beside them."""
    ahead = [NOUGHT] * len(one)
    behind = [NOUGHT] * len(other)
    return [[*row, *behind] for row in one] + [[*ahead, *row] for row in other]
