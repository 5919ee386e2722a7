"""Elimination on rows, in whole numbers: no fraction needs lowest terms on the way."""

from nevernought.shares import common_divisor


def whole_row(row):
    """A row of shares times the least number above nought that makes it whole throughout."""
    common = 1
    for top, bottom in row:
        common = common // common_divisor(common, bottom) * bottom
    return [common // bottom * top for top, bottom in row]


def lead_row(rows, start, column):
    """The first row from `start` on that isn't nought in the column, or None."""
    for at in range(start, len(rows)):
        if rows[at][column] != 0:
            return at
    return None


def swept_row(row, lead, column, divisor):
    """The row with enough of the lead row taken off that it is nought in the column."""
    # Every entry is a minor of the rows that came in, so the division by the
    # lead before this one leaves no rest (Bareiss).
    by, off = lead[column], row[column]
    return [(by * here - off * there) // divisor for here, there in zip(row, lead)]


def swept(rows, width):
    """Rows of whole numbers swept by their first `width` columns: (rows, columns).

    The columns are those of the leads: row k has its lead in columns[k], all other
    rows are nought there, and all leads are the same number.
    """
    rows = [list(row) for row in rows]
    columns = []
    divisor = 1
    for column in range(width):
        place = len(columns)
        at = lead_row(rows, place, column)
        if at is not None:
            rows[place], rows[at] = rows[at], rows[place]
            lead = rows[place]
            rows = [lead if k == place else swept_row(row, lead, column, divisor) for k, row in enumerate(rows)]
            divisor = lead[column]
            columns.append(column)
    return rows, columns
