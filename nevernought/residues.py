"""Whole numbers as what great primes leave of them, and shares found again from that."""

from nevernought.shares import common_divisor

# For each of these exponents e the number 2 to the e-th less 1 is a prime.
EXPONENTS = (61, 89, 107, 127, 521, 607, 1279, 2203, 3217, 4423, 9689, 19937, 44497, 86243, 216091, 756839)


def prime_at(spot):
    """The prime at a spot of the exponents."""
    return (1 << EXPONENTS[spot]) - 1


def bound_at(spot):
    """Shares with top and bottom below this are told apart by the prime at the spot."""
    # Ten bits less than would do: so hardly anything but a true share comes out below it.
    return 1 << (EXPONENTS[spot] // 2 - 10)


def spot_behind(spot):
    """The spot of the first prime that is at least twice as long, or None."""
    for at, exponent in enumerate(EXPONENTS):
        if exponent >= 2 * EXPONENTS[spot]:
            return at
    return None


def undone(number, prime):
    """The number whose product with this one leaves 1; the prime must not divide the number."""
    ahead, behind = prime, number
    before, told = 0, 1
    while behind != 1:
        times_in = ahead // behind
        ahead, behind = behind, ahead - times_in * behind
        before, told = told, before - times_in * told
    return told % prime


def share_of(residue, prime, bound):
    """The share with top and bottom below the bound that leaves this residue, or None."""
    ahead, behind = prime, residue
    before, below = 0, 1
    while behind >= bound:
        times_in = ahead // behind
        ahead, behind = behind, ahead - times_in * behind
        before, below = below, before - times_in * below
    if abs(below) >= bound or common_divisor(behind, below) != 1:
        return None
    return (-behind, -below) if below < 0 else (behind, below)
