"""Terms in which one side has selected: each `max` or each `min` is replaced by an operand, each `median` by two.

The selections follow values that are lists of integers, compared from the left. So one walk serves single times,
lines (rate, offset) and rows of coefficients.
"""

from gaithold.terms import subterms, with_subterms


def weighted_sum(weights, values):
    """Return the sum of lists of integers, each times its weight."""
    return [sum([weight * one for weight, one in zip(weights, column)]) for column in zip(*values)]


def select_operand(kind, values, parts, side):
    """Return the value of a max, a min or a median of operands, and the term that replaces it."""
    ranks = [at for value, at in sorted([(value, at) for at, value in enumerate(values)])]
    if kind == "median":
        # The median is the min of the two above the least operand, and the max of the two below the greatest one.
        lower = side == "max"
        dropped = ranks[0] if lower else ranks[2]
        rest = parts[:dropped] + parts[dropped + 1:]
        return values[ranks[1]], ("min" if lower else "max", *rest)
    best = ranks[-1] if kind == "max" else ranks[0]
    return values[best], parts[best] if kind == side else (kind, *parts)


def select(term, table, unit, scale, side):
    """Return the value of a term times unit * scale, and the term with the selections of one side made.

    The table has for each name a list of integers: its value times unit. A delay adds to the last element. The unit
    is a multiple of the denominators of all delays, and the scale is a multiple of the weight scale of the term.
    """
    kind = term[0]
    if kind == "event":
        return [one * scale for one in table[term[1]]], term
    operands = subterms(term)
    scales = [scale // pair[0][1] for pair in term[1:]] if kind == "mix" else [scale] * len(operands)
    picked = [select(part, table, unit, share, side) for part, share in zip(operands, scales)]
    values = [value for value, part in picked]
    parts = [part for value, part in picked]
    if kind in ("max", "min", "median"):
        return select_operand(kind, values, parts, side)
    if kind == "mix":
        return weighted_sum([pair[0][0] for pair in term[1:]], values), with_subterms(term, parts)
    num, den = term[2]
    values[0][-1] += unit // den * scale * num
    return values[0], with_subterms(term, parts)
