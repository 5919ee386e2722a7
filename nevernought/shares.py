"""Shares: pairs (top, bottom) in lowest terms, bottom 1 or more."""

from nevernought.errors import BadShare, ByNought

MOST_FIGURES = 12
FIGURES = "0123456789"
PIECE_LENGTH = 60
PIECE = 10 ** 60
# Numbers of more bits than this are divided by way of their first bits, so many of them.
LONG = 6000
SHORT = 120


def nearer(one, other):
    """Two shorter numbers that have the same common divisor; handed in is the greater one first, none below nought."""
    # Of the steps of divisions with a rest many are told by the first figures alone (Lehmer).
    shift = one.bit_length() - SHORT
    ahead, behind = one >> shift, other >> shift
    a, b, c, d = 1, 0, 0, 1
    while behind + c != 0 and behind + d != 0:
        times_in = (ahead + a) // (behind + c)
        if times_in != (ahead + b) // (behind + d):
            break
        a, b, c, d = c, d, a - times_in * c, b - times_in * d
        ahead, behind = behind, ahead - times_in * behind
    if b == 0:
        return other, one % other
    return a * one + b * other, c * one + d * other


def common_divisor(one, other):
    """The greatest common divisor, not below nought."""
    if other.bit_length() > LONG:
        one, other = max(abs(one), abs(other)), min(abs(one), abs(other))
        while other.bit_length() > LONG:
            one, other = nearer(one, other)
    while other != 0:
        one, other = other, one % other
    return abs(one)


def share(top, bottom=1):
    """The share of two numbers in lowest terms; ByNought."""
    if bottom == 0:
        raise ByNought()
    divisor = common_divisor(top, bottom)
    if bottom < 0:
        divisor = -divisor
    return (top // divisor, bottom // divisor)


def plus(one, other):
    """The sum of two shares."""
    return share(one[0] * other[1] + other[0] * one[1], one[1] * other[1])


def less(one, other):
    """The first share less the second."""
    return share(one[0] * other[1] - other[0] * one[1], one[1] * other[1])


def times(one, other):
    """The product of two shares."""
    return share(one[0] * other[0], one[1] * other[1])


def over(one, other):
    """The first share divided by the second; ByNought."""
    return share(one[0] * other[1], one[1] * other[0])


def figures_of(number):
    """The figures of a number that isn't below nought."""
    # Python refuses to write a very great number at once, so it goes piece by piece.
    pieces = []
    while number >= PIECE:
        number, piece = divmod(number, PIECE)
        pieces.append(str(piece).zfill(PIECE_LENGTH))
    pieces.append(str(number))
    return "".join(reversed(pieces))


def share_text(one):
    """The share as it is written."""
    top, bottom = one
    text = figures_of(abs(top))
    if top < 0:
        text = "-" + text
    if bottom != 1:
        text = text + "/" + figures_of(bottom)
    return text


def read_figures(text):
    """The number of 1 to 12 figures; BadShare."""
    if text == "" or len(text) > MOST_FIGURES:
        raise BadShare()
    if any([sign not in FIGURES for sign in text]):
        raise BadShare()
    return int(text)


def read_share(text):
    """The share that is written so; BadShare."""
    above, slash, below = text.partition("/")
    below_nought = above.startswith("-")
    top = read_figures(above[1:] if below_nought else above)
    bottom = read_figures(below) if slash else 1
    if bottom == 0:
        raise BadShare()
    told = share(-top if below_nought else top, bottom)
    # A share is written in one way only: needless noughts, a minus of nought,
    # a bottom of 1 and a common divisor all come out otherwise than they went in.
    if share_text(told) != text:
        raise BadShare()
    return told
