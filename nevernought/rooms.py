"""Lesser rooms and ranks of webs."""

from nevernought.counting import independent, sparse_row
from nevernought.errors import BadWeb
from nevernought.residues import prime_at
from nevernought.shrinking import FIRST_PRIMES, laid_sweep, made_by, room_at, threads_of
from nevernought.trials import TRIES, trial_tables
from nevernought.webs import FIXED, letters_of_web


def need_web(squares):
    """BadWeb of the first letter whose square has another size than the fixed one."""
    for letter in sorted(squares):
        if len(squares[letter]) != len(squares[FIXED]):
            raise BadWeb(letter)


def all_made(squares, rows):
    """All products of squares with rows, as dicts of whole numbers by columns."""
    threads = threads_of(squares)
    told = []
    for row in rows:
        told += made_by(threads, sparse_row(row))
    return told


def makes(squares, rows):
    """How many independent rows all products of squares with the rows make; BadWeb."""
    need_web(squares)
    return independent(all_made(squares, rows))


def is_lesser_room(squares, rows):
    """Whether rows are a lesser room of a web of any size."""
    size = len(squares[FIXED])
    if len(rows) == 0 or any([len(row) != size for row in rows]):
        return False
    if independent([sparse_row(row) for row in rows]) < len(rows):
        return False
    return independent(all_made(squares, rows), len(rows)) < len(rows)


def is_room(squares, rows):
    """Whether rows are a lesser room of the web; BadWeb."""
    need_web(squares)
    return is_lesser_room(squares, rows)


def best_tables(threads, found, size, prime):
    """Of some tables of a size those that give the web the greatest rank."""
    told = {}
    most = -1
    for attempt in range(TRIES):
        tables = trial_tables(found, size, attempt)
        many = len(laid_sweep(threads, tables, size, prime).leads)
        if many > most:
            most = many
            told = tables
        if most == len(threads) * size:
            break
    return told


def web_rank(squares):
    """The rank of the web, a lesser room that shows that it is no greater, tables that show that it is so great."""
    need_web(squares)
    threads = threads_of(squares)
    found = letters_of_web(squares)
    steps = 0
    while True:
        # Without letters there are no greater tables, only other primes.
        size = steps + 1 if found else 1
        spot = steps % FIRST_PRIMES
        tables = best_tables(threads, found, size, prime_at(spot))
        told = room_at(threads, tables, size, spot)
        if told is not None:
            return (told[0], told[1], tables)
        steps += 1


def lesser_room(squares):
    """A lesser room of the web, or None where there is none; BadWeb."""
    room = web_rank(squares)[1]
    return room if room else None
