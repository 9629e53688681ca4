"""Rounds of a system, with all times as integers over one common denominator.

Fractions would be reduced at every step of every term. That takes long, because weights make denominators grow from
round to round.
"""

from gaithold.rationals import common_denominator, fraction, greatest_divisor, least_multiple
from gaithold.terms import delays_in, subterms


def weight_scale(term):
    """Return an integer that turns every product of nested weights in a term into an integer."""
    scale = 1
    if term[0] == "mix":
        for weight, part in term[1:]:
            scale = least_multiple(scale, weight[1] * weight_scale(part))
        return scale
    for part in subterms(term):
        scale = least_multiple(scale, weight_scale(part))
    return scale


def scaled_value(term, table, unit, scale):
    """Return the value of a term times unit * scale, an integer.

    The table has the times as integers over unit, a multiple of the denominators of all delays. The scale is a
    multiple of the weight scale of the term.
    """
    kind = term[0]
    if kind == "event":
        return table[term[1]] * scale
    if kind == "delay":
        num, den = term[2]
        return scaled_value(term[1], table, unit, scale) + unit // den * scale * num
    if kind == "mix":
        return sum([num * scaled_value(part, table, unit, scale // den) for (num, den), part in term[1:]])
    values = sorted([scaled_value(part, table, unit, scale) for part in term[1:]])
    if kind == "max":
        return values[-1]
    if kind == "min":
        return values[0]
    return values[1]


def shared_divisor(values, start):
    """Return the greatest common divisor of a positive integer and all values."""
    divisor = start
    for value in values:
        divisor = greatest_divisor(value, divisor)
    return divisor


def times_after(pairs, times, rounds):
    """Return the times after a number of rounds of the rows (name, term) of a system."""
    names = [name for name, term in pairs]
    delays = [amount for name, term in pairs for amount in delays_in(term)]
    unit = common_denominator([*times, *delays])
    values = [num * (unit // den) for num, den in times]
    scale = 1
    for name, term in pairs:
        scale = least_multiple(scale, weight_scale(term))
    for turn in range(rounds):
        table = dict(zip(names, values))
        values = [scaled_value(term, table, unit, scale) for name, term in pairs]
        # Weights that no selection used would make the numbers longer in every round.
        unused = shared_divisor(values, scale)
        values = [value // unused for value in values]
        unit *= scale // unused
    return [fraction(value, unit) for value in values]
