"""Tables to try: they look like thrown ones, yet they are always the same."""

TRIES = 3
# What the numbers of the first, second and third try at a size may be, from minus this on.
BOUNDS = (3, 20, 1000)
BY = 48271
RING = 2147483647
WARM = 8


def stirred(seed, many):
    """So many numbers that follow no plain rule."""
    told = []
    for at in range(many + WARM):
        seed = seed * BY % RING
        # The first ones still show how alike small seeds are.
        if at >= WARM:
            told.append(seed)
    return told


def trial_tables(found, size, attempt):
    """Tables of whole numbers, of a size, for all these letters."""
    bound = BOUNDS[attempt]
    numbers = stirred(1 + attempt + TRIES * size, len(found) * size * size)
    shares = [(number % (2 * bound + 1) - bound, 1) for number in numbers]
    tables = {}
    for at, letter in enumerate(found):
        start = at * size * size
        tables[letter] = [shares[start + row * size:start + (row + 1) * size] for row in range(size)]
    return tables
