"""Lesser rooms of webs, found from tables at which a web has the rank that it has at all.

The rows that such tables bring to nought are in a lesser room, and so are all that they bring to what squares
make of rows in it already. Either this ends, and the rows found are a lesser room; or something that is made
is beyond the reach of the tables, and then there are tables at which the web has a greater rank.
"""

from nevernought.counting import independent, sparse_row
from nevernought.modsweep import Sweep, left_of, true_rows
from nevernought.residues import bound_at, prime_at, spot_behind
from nevernought.sweeping import whole_row
from nevernought.tables import NOUGHT
from nevernought.webs import FIXED

# Each search begins with another one of the shorter primes, should one of them divide what mustn't be nought.
FIRST_PRIMES = 7


def threads_of(squares):
    """The rows of a web as lists of (letter, column, whole number), what is nought left out.

    Each row is made whole in all squares at once, which leaves the web its lesser rooms and ranks.
    """
    size = len(squares[FIXED])
    told = []
    for at in range(size):
        spots = [(letter, column) for letter in sorted(squares) for column in range(size)]
        numbers = whole_row([squares[letter][at][column] for letter, column in spots])
        told.append([(letter, column, number) for (letter, column), number in zip(spots, numbers) if number != 0])
    return told


def made_by(threads, row):
    """What the squares make of a row, a dict of whole numbers by columns: such dicts, one for each square."""
    told = {}
    for at, thread in enumerate(threads):
        for letter, column, number in thread:
            if column in row:
                made = told.setdefault(letter, {})
                made[at] = made.get(at, 0) + number * row[column]
    return [told[letter] for letter in sorted(told)]


def laid_rows(threads, tables, size):
    """The rows of a web laid at tables of whole numbers, as dicts by columns."""
    told = []
    for thread in threads:
        for a in range(size):
            row = {}
            for letter, column, number in thread:
                for b in range(size):
                    by = int(a == b) if letter == FIXED else tables[letter][a][b][0]
                    if by != 0:
                        row[column * size + b] = row.get(column * size + b, 0) + number * by
            told.append(row)
    return told


def laid_sweep(threads, tables, size, prime):
    """The sweep of a web laid at tables of whole numbers."""
    sweep = Sweep(prime)
    for row in laid_rows(threads, tables, size):
        sweep.take(left_of(row, prime))
    return sweep


def slices(answer, size):
    """An answer of a web laid at tables of a size, parted into rows of the web's own size."""
    told = [{} for b in range(size)]
    for spot in sorted(answer):
        told[spot % size][spot // size] = answer[spot]
    return told


def answers_of(laid, row, size):
    """What the laid web brings to a row, put in each way into rows of the laid web's size; None where nothing."""
    return [laid.answer({at * size + b: row[at] for at in row}) for b in range(size)]


def room_sweep(threads, laid, size):
    """The sweep of a lesser room, or None where the tables don't show one."""
    room = Sweep(laid.prime)
    made = Sweep(laid.prime)
    waiting = []
    for answer in laid.kernel(len(threads) * size):
        waiting += slices(answer, size)
    while waiting:
        row = room.take(waiting.pop())
        products = made_by(threads, row) if row is not None else []
        for product in products:
            rest = made.take(left_of(product, laid.prime))
            answers = answers_of(laid, rest, size) if rest is not None else []
            for answer in answers:
                if answer is None:
                    return None
                waiting += slices(answer, size)
    return room


def is_shown(threads, rows, rank):
    """Whether rows, dicts of shares by columns, make so few others that the web's rank is at most this."""
    width = len(threads)
    most = len(rows) - (width - rank)
    made = []
    for row in rows:
        whole = sparse_row([row.get(column, NOUGHT) for column in range(width)])
        made += made_by(threads, whole)
    return independent(made, most + 1) <= most


def room_at(threads, tables, size, spot):
    """The rank that the web has at these tables, by their size, and a lesser room that shows that it has no greater.

    The room is a list of rows, none where the rank is the web's size. None is told where no such room is found.
    """
    width = len(threads)
    while spot is not None:
        laid = laid_sweep(threads, tables, size, prime_at(spot))
        rank = len(laid.leads) // size
        room = room_sweep(threads, laid, size) if len(laid.leads) == rank * size else None
        if room is None:
            return None
        rows = true_rows(room, bound_at(spot))
        if rows is not None and is_shown(threads, rows, rank):
            return (rank, [[row.get(column, NOUGHT) for column in range(width)] for row in rows])
        spot = spot_behind(spot)
    return None
