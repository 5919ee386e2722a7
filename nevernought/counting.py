"""How many rows of whole numbers are independent: exactly, yet mostly by what primes leave of them."""

from nevernought.modsweep import Sweep, left_of, true_rows
from nevernought.residues import bound_at, prime_at, spot_behind
from nevernought.shares import common_divisor
from nevernought.sweeping import swept, whole_row


def sparse_row(row):
    """A row of shares times a number that makes it whole: a dict from columns to what isn't nought."""
    return {column: number for column, number in enumerate(whole_row(row)) if number != 0}


def common_bottom(rows):
    """A number that the bottoms of all shares in these dicts divide."""
    common = 1
    for row in rows:
        for column in row:
            bottom = row[column][1]
            common = common // common_divisor(common, bottom) * bottom
    return common


def are_made_up(rows, basis):
    """Whether rows are made up of a basis: dicts of shares, each with 1 at its first column, which no other has."""
    common = common_bottom(basis)
    whole = [(min(row), {column: common // row[column][1] * row[column][0] for column in row}) for row in basis]
    for row in rows:
        rest = {column: common * row[column] for column in row}
        for lead, other in whole:
            by = row.get(lead, 0)
            if by != 0:
                for column in other:
                    rest[column] = rest.get(column, 0) - by * other[column]
        if any([rest[column] != 0 for column in rest]):
            return False
    return True


def independent(rows, enough=None):
    """How many rows, dicts of whole numbers by columns, are independent; or any number from `enough` to that one."""
    spot = 0
    while spot is not None:
        prime = prime_at(spot)
        sweep = Sweep(prime)
        for row in rows:
            sweep.take(left_of(row, prime))
        # Rows that are independent in what a prime leaves of them are independent.
        many = len(sweep.leads)
        if many == len(rows) or (enough is not None and many >= enough):
            return many
        basis = true_rows(sweep, bound_at(spot))
        if basis is not None and are_made_up(rows, basis):
            return many
        spot = spot_behind(spot)
    width = max([max(row) for row in rows if row]) + 1
    return len(swept([[row.get(column, 0) for column in range(width)] for row in rows], width)[1])
