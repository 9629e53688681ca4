"""Exact fractions: pairs (numerator, denominator) in lowest terms."""

from gaithold.errors import ParseError, ZeroDenominator

ZERO = (0, 1)
MAX_DIGITS = 30


def greatest_divisor(one, other):
    """Return the greatest common divisor of two integers that are not both zero."""
    while other != 0:
        one, other = other, one % other
    return abs(one)


def least_multiple(one, other):
    """Return the least common multiple of two positive integers."""
    return one // greatest_divisor(one, other) * other


def common_denominator(row):
    """Return the least positive integer that turns all fractions of a list into integers."""
    result = 1
    for num, den in row:
        result = least_multiple(result, den)
    return result


def fraction(num, den=1):
    """Return num / den in lowest terms with a positive denominator."""
    if den == 0:
        raise ZeroDenominator()
    divisor = greatest_divisor(num, den)
    if den < 0:
        divisor = -divisor
    return (num // divisor, den // divisor)


def add(one, other):
    """Return the sum of two fractions."""
    return fraction(one[0] * other[1] + other[0] * one[1], one[1] * other[1])


def subtract(one, other):
    """Return the first fraction minus the second one."""
    return fraction(one[0] * other[1] - other[0] * one[1], one[1] * other[1])


def multiply(one, other):
    """Return the product of two fractions."""
    return fraction(one[0] * other[0], one[1] * other[1])


def divide(one, other):
    """Return the first fraction divided by the second one."""
    return fraction(one[0] * other[1], one[1] * other[0])


def magnitude(one):
    """Return the absolute value of a fraction."""
    return (abs(one[0]), one[1])


def is_less(one, other):
    """Return whether the first fraction is less than the second one."""
    return one[0] * other[1] < other[0] * one[1]


def total(row, *, start=ZERO):
    """Return the sum of a list of fractions plus start."""
    result = start
    for one in row:
        result = add(result, one)
    return result


def index_of_max(row):
    """Return the first index of the greatest element of a nonempty list."""
    best = 0
    for at, one in enumerate(row):
        if is_less(row[best], one):
            best = at
    return best


def index_of_min(row):
    """Return the first index of the least element of a nonempty list."""
    best = 0
    for at, one in enumerate(row):
        if is_less(one, row[best]):
            best = at
    return best


def ceiling(one):
    """Return the least integer that is not less than the fraction."""
    return -(-one[0] // one[1])


def format_fraction(one):
    """Return the canonical text of a fraction."""
    if one[1] == 1:
        return str(one[0])
    return f"{one[0]}/{one[1]}"


def is_digits(text):
    """Return whether a text consists of 1 to 30 digits 0 to 9."""
    # isdigit alone also accepts digits of other scripts.
    return text.isascii() and text.isdigit() and len(text) <= MAX_DIGITS


def parse_fraction(text):
    """Return the fraction with this canonical text."""
    upper, slash, below = text.removeprefix("-").partition("/")
    if slash == "":
        below = "1"
    if not is_digits(upper) or not is_digits(below) or int(below) == 0:
        raise ParseError(0)
    sign = -1 if text.startswith("-") else 1
    value = fraction(sign * int(upper), int(below))
    # Whatever else is not canonical differs from the text that is written.
    if format_fraction(value) != text:
        raise ParseError(0)
    return value
