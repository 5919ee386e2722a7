"""Independent rows of whole numbers, exactly; how great a row is is no matter, only where it points."""

from nevernought.shares import common_divisor


def shortened(row):
    """The row without a common divisor."""
    divisor = 0
    for number in row:
        divisor = common_divisor(divisor, number)
        if divisor == 1:
            return row
    return [number // divisor for number in row] if divisor > 1 else row


class Span:
    """Independent rows: each is nought at the leads of those ahead, and isn't at its own."""

    def __init__(self):
        self.leads = []
        self.rows = []

    def take(self, row):
        """Takes a row in: what is left of it behind those ahead, or None."""
        rest = row
        for lead, other in zip(self.leads, self.rows):
            by, off = other[lead], rest[lead]
            if off != 0:
                rest = [by * here - off * there for here, there in zip(rest, other)]
        found = [at for at, number in enumerate(rest) if number != 0]
        if not found:
            return None
        rest = shortened(rest)
        self.leads.append(found[0])
        self.rows.append(rest)
        return rest
