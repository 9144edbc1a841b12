"""Exact amounts: tuples (top, bottom) in lowest terms, and how to reckon with them.

Amounts grow long where many of them come together, so the greatest common divisor of long
numbers is found by their leading digits first, and no more of it is asked than is needed.
"""

ZERO = (0, 1)

# In bits. Below LONG Euclid's plain steps are quicker, below SHORT a halving is done by them.
LONG = 3000
SHORT = 400


def is_integer(thing):
    """True and False are integers for Python, but not here."""
    return isinstance(thing, int) and not isinstance(thing, bool)


def is_amount(thing):
    if not isinstance(thing, tuple) or len(thing) != 2:
        return False
    top, bottom = thing
    if not is_integer(top) or not is_integer(bottom):
        return False
    return top >= 0 and bottom >= 1 and divisor(top, bottom) == 1


def divisor(one, other):
    """The greatest common divisor of two integers >= 0; with 0 it is the other one."""
    if one < other:
        one, other = other, one
    while other.bit_length() > LONG:
        if one.bit_length() - other.bit_length() > LONG // 2:
            one, other = other, one % other
        else:
            one, other = shortened(one, other)
    while other:
        one, other = other, one % other
    return one


def shortened(one, other):
    """Two shorter numbers with the same divisors in common."""
    one, other, factors = led(one, other, one.bit_length() // 3)
    if other:
        one, other = other, one % other
    return one, other


def led(one, other, shift):
    """Two numbers made shorter as their leading bits tell: (one, other, factors) as halving tells them.

    The leading bits do not tell each quotient right, but this does no harm: p * s - q * r is 1 or -1
    for whatever factors, so that all common divisors stay the same.
    """
    high, low, (p, q, r, s) = halving(one >> shift, other >> shift)
    mask = (1 << shift) - 1
    one, other = one & mask, other & mask
    one, other = (high << shift) + p * one + q * other, (low << shift) + r * one + s * other
    if one < 0:
        one, p, q = -one, -p, -q
    if other < 0:
        other, r, s = -other, -r, -s
    if one < other:
        return other, one, (r, s, p, q)
    return one, other, (p, q, r, s)


def halving(one, other):
    """Two numbers, the greater one first, made to about half their bits.

    Returns (p * one + q * other, r * one + s * other, (p, q, r, s)), the greater one of both first.
    """
    bits = one.bit_length()
    half = bits // 2
    if bits <= SHORT:
        return plain_halving(one, other, 1 << half)
    factors = (1, 0, 0, 1)
    if other.bit_length() > half + 1:
        one, other, factors = led(one, other, half)
    if other.bit_length() > half + 1:
        times_in = one // other
        one, other = other, one - times_in * other
        factors = joined((0, 1, 1, -times_in), factors)
    if other.bit_length() > half + 1:
        one, other, later = led(one, other, max(half // 2, bits - one.bit_length()))
        factors = joined(later, factors)
    return one, other, factors


def plain_halving(one, other, least):
    """Halving by Euclid's steps, until the lesser number is below the least."""
    if other < least:
        return one, other, (1, 0, 0, 1)
    first, second = one, other
    p, r = 1, 0
    # Only p and r are reckoned in each step: q and s follow of them at the end.
    while second >= least:
        times_in = first // second
        first, second = second, first - times_in * second
        p, r = r, p - times_in * r
    return first, second, (p, (first - p * one) // other, r, (second - r * one) // other)


def joined(later, earlier):
    """The factors that do what the earlier ones and then the later ones do."""
    a, b, c, d = later
    p, q, r, s = earlier
    return a * p + b * r, a * q + b * s, c * p + d * r, c * q + d * s


def total(amounts):
    """The sum of a list of amounts."""
    top, bottom, common = 0, 1, 1
    for more, parts in amounts:
        same = divisor(bottom, parts)
        finer = parts // same
        top = top * finer + more * (bottom // same)
        bottom = bottom * finer
        # A prime that stands in one bottom only cannot be cancelled from the sum.
        common = min(common * same, bottom)
    return cancelled(top, bottom, common)


def cancelled(top, bottom, common):
    """A fraction in lowest terms; each prime that may be cancelled divides common."""
    if common == bottom:
        same = divisor(top, bottom)
        return top // same, bottom // same
    same = divisor(bottom, divisor(top, common))
    while same > 1:
        top, bottom = top // same, bottom // same
        same = divisor(bottom, divisor(top, common))
    return top, bottom


def plus(one, other):
    return total([one, other])


def minus(one, other):
    """The difference of an amount and one that is not greater."""
    return total([one, (-other[0], other[1])])


def times(one, other):
    """Both are in lowest terms, so only across can something be cancelled."""
    first = divisor(one[0], other[1])
    second = divisor(other[0], one[1])
    return (one[0] // first) * (other[0] // second), (one[1] // second) * (other[1] // first)


def over(one, other):
    """The quotient of an amount and one above 0."""
    return times(one, (other[1], other[0]))


def is_less(one, other):
    return one[0] * other[1] < other[0] * one[1]


def lesser(one, other):
    return other if is_less(other, one) else one


def greater(one, other):
    return other if is_less(one, other) else one
