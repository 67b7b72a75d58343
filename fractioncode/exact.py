"""Exact arithmetic on numbers: fractions and their weights."""

from fractioncode.refusals import DividedByZero, NoRoot, TooHeavy
from fractioncode.sorts import Number

MOST_DIGITS = 100
MOST_WEIGHT = 200
# Two numbers below 10^1000 take fewer divisions than this until their common divisor is found, and as many
# if both are multiplied by the same one: what takes more is too large in lowest terms too.
MOST_DIVISIONS = 5000


class TooLarge(Exception):
    """What is to be shown is too large for it."""


def shown_bound():
    """10^1000: no fraction is shown whose numerator or denominator isn't below it."""
    return (10 ** 50) ** 20


def common_divisor(a, b):
    """The greatest whole number that divides both a and b, if a / b isn't too large to be shown; b is above 0."""
    for division in range(MOST_DIVISIONS):
        if b == 0:
            return a
        rest = a % b
        a = b
        b = rest
    raise TooLarge()


def are_digits(text):
    """Whether text is as many digits as a fraction text may have in a row."""
    return 1 <= len(text) <= MOST_DIGITS and text.isdigit()


def read_fraction(text, weight):
    """The number in lowest terms that a fraction text means; None if text is no fraction text."""
    below_zero = text.startswith("-")
    digits = text[1:].split("/") if below_zero else text.split("/")
    if len(digits) > 2 or not all([are_digits(part) for part in digits]):
        return None
    top = int(digits[0])
    bottom = int(digits[1]) if len(digits) == 2 else 1
    if bottom == 0:
        return None
    divisor = common_divisor(top, bottom)
    return Number(-top // divisor if below_zero else top // divisor, bottom // divisor, weight)


def fraction_text(number):
    """The text of a number's fraction in lowest terms, if these aren't too large to be shown."""
    divisor = common_divisor(number.top, number.bottom)
    top = number.top // divisor
    bottom = number.bottom // divisor
    if max(abs(top), bottom) >= shown_bound():
        raise TooLarge()
    return str(top) if bottom == 1 else f"{top}/{bottom}"


def light_enough(weight):
    """The weight, if a number may have it."""
    if weight > MOST_WEIGHT:
        raise TooHeavy()
    return weight


def added(a, b):
    """a + b."""
    weight = light_enough(a.weight + b.weight)
    return Number(a.top * b.bottom + b.top * a.bottom, a.bottom * b.bottom, weight)


def subtracted(a, b):
    """a - b."""
    weight = light_enough(a.weight + b.weight)
    return Number(a.top * b.bottom - b.top * a.bottom, a.bottom * b.bottom, weight)


def multiplied(a, b):
    """a times b."""
    weight = light_enough(a.weight + b.weight)
    return Number(a.top * b.top, a.bottom * b.bottom, weight)


def quotient_weight(a, b):
    """The weight of a number that comes of dividing a by b; zero is looked at ahead of the weight."""
    if b.top == 0:
        raise DividedByZero()
    return light_enough(a.weight + b.weight)


def divided(a, b):
    """a / b."""
    weight = quotient_weight(a, b)
    if b.top < 0:
        return Number(-a.top * b.bottom, -a.bottom * b.top, weight)
    return Number(a.top * b.bottom, a.bottom * b.top, weight)


def floored(a, b):
    """The greatest whole number that isn't above a / b."""
    weight = quotient_weight(a, b)
    return Number((a.top * b.bottom) // (b.top * a.bottom), 1, weight)


def rest_of(a, b):
    """a - b times the greatest whole number that isn't above a / b."""
    weight = quotient_weight(a, b)
    return Number((a.top * b.bottom) % (b.top * a.bottom), a.bottom * b.bottom, weight)


WORKS = {
    "add": added,
    "sub": subtracted,
    "mul": multiplied,
    "div": divided,
    "floor": floored,
    "rest": rest_of,
}


def worked_out(word, a, b):
    """What the instruction word gives of the numbers a and b."""
    return WORKS[word](a, b)


def raised(a, power):
    """a to the power, which is a whole number of either sign."""
    if power < 0 and a.top == 0:
        raise DividedByZero()
    weight = light_enough(max(1, a.weight * abs(power)))
    top = 1
    bottom = 1
    for times in range(abs(power)):
        top = top * a.top
        bottom = bottom * a.bottom
    if power >= 0:
        return Number(top, bottom, weight)
    return Number(-bottom, -top, weight) if top < 0 else Number(bottom, top, weight)


def whole_root(n):
    """The greatest whole number whose square isn't above n, which is from 0 on.

    Each round knows twice as many of the root's leading bits as the one before, so that only
    the last division is one of long numbers.
    """
    if n == 0:
        return 0
    half = (n.bit_length() - 1) // 2
    root = 1
    known = 0
    for shift in range(half.bit_length() - 1, -1, -1):
        before = known
        known = half >> shift
        root = (root << (known - before - 1)) + (n >> (2 * half - before - known + 1)) // root
    return root - 1 if root * root > n else root


def rooted(a):
    """The fraction from 0 on whose square is a."""
    if a.top < 0:
        raise NoRoot()
    # top / bottom is top * bottom divided by a square, so it's a square just if top * bottom is one.
    square = a.top * a.bottom
    root = whole_root(square)
    if root * root != square:
        raise NoRoot()
    return Number(root, a.bottom, a.weight)


def is_less(a, b):
    """Whether a is below b."""
    return a.top * b.bottom < b.top * a.bottom


def is_same(a, b):
    """Whether a and b are the same fraction."""
    return a.top * b.bottom == b.top * a.bottom
