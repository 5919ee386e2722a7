"""Tables as pairs (rows of whole numbers, one bottom above nought for all): few divisors have to be looked for."""

from nevernought.shares import common_divisor, share
from nevernought.sweeping import swept, whole_row


def lowered(rows, bottom):
    """The pair without a common divisor, its bottom above nought."""
    divisor = bottom
    for row in rows:
        for number in row:
            if abs(divisor) == 1:
                break
            divisor = common_divisor(divisor, number)
    divisor = -abs(divisor) if bottom < 0 else abs(divisor)
    if divisor == 1:
        return (rows, bottom)
    return ([[number // divisor for number in row] for row in rows], bottom // divisor)


def whole_line(row):
    """A row of shares as a pair (row of whole numbers, one bottom)."""
    flat = whole_row([*row, (1, 1)])
    return (flat[:-1], flat[-1])


def whole_of(table):
    """The pair of a table of shares."""
    size = len(table)
    flat, bottom = whole_line([one for row in table for one in row])
    return ([flat[row * size:(row + 1) * size] for row in range(size)], bottom)


def table_of(whole):
    """The table of shares of a pair."""
    rows, bottom = whole
    return [[share(number, bottom) for number in row] for row in rows]


def whole_unit(size, by):
    """The pair of a share times the unit of a size."""
    return ([[by[0] if row == column else 0 for column in range(size)] for row in range(size)], by[1])


def whole_sum(one, other, sign):
    """The first pair and so many times the second one."""
    rows, bottom = one
    beside, below = other
    divisor = common_divisor(bottom, below)
    up, down = below // divisor, sign * (bottom // divisor)
    told = [[up * a + down * b for a, b in zip(row, opposite)] for row, opposite in zip(rows, beside)]
    return lowered(told, bottom * up)


def whole_product(one, other):
    """The product of two pairs in this order."""
    rows, bottom = one
    beside, below = other
    columns = list(zip(*beside))
    told = [[sum([a * b for a, b in zip(row, column)]) for column in columns] for row in rows]
    return lowered(told, bottom * below)


def whole_back(one):
    """The pair that turns this one back, or None."""
    rows, bottom = one
    size = len(rows)
    doubled = [row + [bottom if k == at else 0 for k in range(size)] for at, row in enumerate(rows)]
    told, columns = swept(doubled, size)
    if len(columns) < size:
        return None
    return lowered([row[size:] for row in told], told[0][0])


def is_nought(one):
    """Whether a pair is nought throughout."""
    return not any([any(row) for row in one[0]])
