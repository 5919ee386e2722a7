"""Elimination on rows of which a prime leaves little: each row is a dict from columns to what isn't nought there."""

from nevernought.residues import share_of, undone


def left_of(row, prime):
    """What a prime leaves of a row of whole numbers."""
    told = {}
    for column in row:
        number = row[column] % prime
        if number != 0:
            told[column] = number
    return told


def take_off(row, other, by, prime):
    """Takes so many times the other row off the row."""
    for column in other:
        number = (row.get(column, 0) - by * other[column]) % prime
        if number != 0:
            row[column] = number
        elif column in row:
            del row[column]


class Sweep:
    """Independent rows: each has 1 at its lead, its first column, and nought at the leads of rows ahead."""

    def __init__(self, prime):
        self.prime = prime
        self.leads = []
        self.rows = []
        # For each row that was ever taken in: what was taken off, by rows, and what made the lead 1, or None.
        self.records = []

    def take(self, row):
        """Takes a row in: what is left of it behind those ahead, or None."""
        rest = {column: row[column] for column in row}
        offs = []
        for at, lead in enumerate(self.leads):
            by = rest.get(lead, 0)
            if by != 0:
                offs.append((at, by))
                take_off(rest, self.rows[at], by, self.prime)
        if not rest:
            self.records.append((offs, None))
            return None
        lead = min(rest)
        scale = undone(rest[lead], self.prime)
        rest = {column: rest[column] * scale % self.prime for column in rest}
        self.leads.append(lead)
        self.rows.append(rest)
        self.records.append((offs, scale))
        return rest

    def basis(self):
        """The rows, their leads rising, each nought at all leads but its own."""
        told = []
        for at in reversed(range(len(self.rows))):
            row = {column: self.rows[at][column] for column in self.rows[at]}
            for lead, other in told:
                by = row.get(lead, 0)
                if by != 0:
                    take_off(row, other, by, self.prime)
            told.append((self.leads[at], row))
        return [row for lead, row in sorted(told, key=lambda pair: pair[0])]

    def filled(self, answer, wanted):
        """Sets the leads of an answer, a dict by columns, so that its products with the rows are as wanted."""
        for at in reversed(range(len(self.rows))):
            row = self.rows[at]
            number = wanted[at]
            # The lead itself isn't in the answer yet.
            for column in row:
                if column in answer:
                    number -= row[column] * answer[column]
            number = number % self.prime
            if number != 0:
                answer[self.leads[at]] = number
        return answer

    def kernel(self, width):
        """Independent answers, of so many columns, whose products with all rows are nought."""
        nothing = [0] * len(self.rows)
        return [self.filled({column: 1}, nothing) for column in range(width) if column not in self.leads]

    def answer(self, wanted):
        """An answer whose products with the rows that were taken in are as wanted, a dict by rows; None if none."""
        told = []
        for at, (offs, scale) in enumerate(self.records):
            number = wanted.get(at, 0)
            for other, by in offs:
                number -= by * told[other]
            if scale is not None:
                told.append(number * scale % self.prime)
            elif number % self.prime != 0:
                return None
        return self.filled({}, told)


def true_rows(sweep, bound):
    """The basis of a sweep as dicts of shares, or None where it can't be shares below the bound."""
    told = []
    for row in sweep.basis():
        shares = {}
        for column in sorted(row):
            one = share_of(row[column], sweep.prime, bound)
            if one is None:
                return None
            shares[column] = one
        told.append(shares)
    return told
