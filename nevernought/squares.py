"""Squares of reckonings: their webs and their ranks."""

from nevernought.alike import need_sound
from nevernought.errors import BadSquare
from nevernought.residues import prime_at
from nevernought.shrinking import FIRST_PRIMES, laid_sweep, room_at, threads_of
from nevernought.terms import letters_of, need_term, parts_of
from nevernought.trials import TRIES, trial_tables
from nevernought.webs import strands_of, web_from
from nevernought.worths import Work

MOST_ROWS = 3
MOST_SQUARE_PARTS = 36
MOST_SQUARE_LETTERS = 4


def terms_in(rows):
    """The reckonings of a square, row by row."""
    return [term for row in rows for term in row]


def letters_in(rows):
    """The letters of all reckonings of a square, each once, rising."""
    return sorted({letter for term in terms_in(rows) for letter in letters_of(term)})


def need_square(rows):
    """BadTerm of the first that is no reckoning, then BadSquare."""
    for term in terms_in(rows):
        need_term(term)
    if not 1 <= len(rows) <= MOST_ROWS or any([len(row) != len(rows) for row in rows]):
        raise BadSquare()
    if sum([len(parts_of(term)) for term in terms_in(rows)]) > MOST_SQUARE_PARTS:
        raise BadSquare()
    if len(letters_in(rows)) > MOST_SQUARE_LETTERS:
        raise BadSquare()


def web_of_square(rows):
    """The web of what is a square of reckonings."""
    strands = [[strands_of(term) for term in row] for row in rows]
    inner = sum([one.many for row in strands for one in row])
    spots = []
    by = 0
    for i, row in enumerate(strands):
        for j, one in enumerate(row):
            spots += one.moved_inner(by)
            spots += [(inner + i, column, letter, much) for column, letter, much in one.moved_across(by)]
            spots += [(upright, inner + j, letter, much) for upright, letter, much in one.moved_upright(by)]
            spots += [(inner + i, inner + j, letter, much) for letter, much in one.corner]
            by += one.many
    return web_from(spots, inner + len(rows), letters_in(rows))


def square_web(rows):
    """The web of a square of reckonings; BadTerm, BadSquare."""
    need_square(rows)
    return web_of_square(rows)


def have_worths(terms, tables):
    """Whether all these have worths at the tables."""
    return all([Work(tables).out(term, 0) is not None for term in terms])


def tables_for(rows, threads, size, prime):
    """Of some tables of a size, at which all have worths, those that give the web the greatest rank; or None."""
    told = None
    most = -1
    for attempt in range(TRIES):
        tables = trial_tables(letters_in(rows), size, attempt)
        if have_worths(terms_in(rows), tables):
            many = len(laid_sweep(threads, tables, size, prime).leads)
            if many > most:
                most = many
                told = tables
    return told


def rank_of(rows):
    """The rank of a square of reckonings, with the room and the tables that show it; BadTerm, BadSquare, Unsound."""
    need_square(rows)
    need_sound(terms_in(rows))
    threads = threads_of(web_of_square(rows))
    inner = len(threads) - len(rows)
    steps = 0
    while True:
        # Without letters there are no greater tables, only other primes.
        size = steps + 1 if letters_in(rows) else 1
        spot = steps % FIRST_PRIMES
        tables = tables_for(rows, threads, size, prime_at(spot))
        told = room_at(threads, tables, size, spot) if tables is not None else None
        if told is not None:
            return (told[0] - inner, told[1], tables)
        steps += 1
