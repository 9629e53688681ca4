"""Lines that a system may follow, found through discounted times.

If every round first multiplies all times by 1 - 1/horizon, exactly one list of times is mapped to itself. For a great
horizon this list is about horizon * rates + times for a regime with these times and rates, and the operands that are
selected at this list are the ones that are selected along the regime.
"""

from gaithold.linear import eliminate, solution_of
from gaithold.rationals import common_denominator, multiply
from gaithold.selections import select
from gaithold.stepping import weight_scale
from gaithold.terms import delays_in

SIDES = ("max", "min")


class Discount:
    """The horizon, and the integers by which the values of the terms of a system are multiplied."""

    def __init__(self, pairs, horizon):
        self.horizon = horizon
        self.labels = [name for name, term in pairs]
        self.scales = [weight_scale(term) for name, term in pairs]
        self.unit = common_denominator([amount for name, term in pairs for amount in delays_in(term)])


def indicator(size, at, worth):
    """Return a list of zeros with one other element."""
    return [worth if place == at else 0 for place in range(size)]


def coefficients(discount, terms):
    """Return for each term without selections its weights times its scale, and then its delays times unit * scale."""
    many = len(terms)
    table = {name: indicator(many + 1, at, 1) for at, name in enumerate(discount.labels)}
    # Nothing is left to select, so the side does not matter.
    return [select(term, table, discount.unit, scale, "max")[0] for term, scale in zip(terms, discount.scales)]


def drift_rows(discount, terms):
    """Return rows (time minus next time, time, next time, delay) of coefficients of terms without selections."""
    rows = []
    for at, row in enumerate(coefficients(discount, terms)):
        stay = indicator(len(terms), at, discount.scales[at])
        move = row[:-1]
        rows.append(([one - other for one, other in zip(stay, move)], stay, move, row[-1]))
    return rows


def times_without_selections(discount, terms):
    """Return the fixed times of terms without selections."""
    shrunk = discount.horizon - 1
    rows = [
        [shrunk * one + other for one, other in zip(drift, stay)] + [discount.horizon * delay]
        for drift, stay, move, delay in drift_rows(discount, terms)]
    columns, done, rest = eliminate(rows, len(terms))
    # By now every pivot is the determinant, which is positive because the diagonal dominates.
    return [row[-1] for row in done], done[-1][len(terms) - 1]


def discounted_round(discount, terms, point, side):
    """Return for each term its value one round later, and the term with the selections of one side made.

    A point is a pair of integers for all times and of the divisor that, times the unit, they are over.
    """
    values, divisor = point
    table = {name: [(discount.horizon - 1) * value] for name, value in zip(discount.labels, values)}
    unit = discount.horizon * divisor * discount.unit
    return [select(term, table, unit, scale, side) for term, scale in zip(terms, discount.scales)]


def fixed_times(discount, terms, sides, start):
    """Return the point that a discounted round of terms with selections of these sides maps to itself."""
    if len(sides) == 0:
        return times_without_selections(discount, terms)
    point = start
    while True:
        picked = discounted_round(discount, terms, point, sides[0])
        fixed = [[discount.horizon * scale * value] for scale, value in zip(discount.scales, point[0])]
        if [value for value, part in picked] == fixed:
            return point
        # Behind the first one, each point is better for this side than the one before: no selection comes twice.
        point = fixed_times(discount, [part for value, part in picked], sides[1:], point)


def limit_line(discount, terms):
    """Return the times and the rates of the line that terms without selections approach as the horizon grows.

    The fixed times are a series horizon * rates + times + rest / horizon + .., whose first equations are these.
    """
    many = len(terms)
    none = [0] * many
    rows = []
    for drift, stay, move, delay in drift_rows(discount, terms):
        rows.append([*drift, *none, *none, 0])
        rows.append([*stay, *drift, *none, delay])
        rows.append([*none, *move, *drift, 0])
    values = [multiply(one, (1, discount.unit)) for one in solution_of(rows, 3 * many)]
    return values[many:2 * many], values[:many]


def approach(pairs, horizon, start):
    """Return the fixed point of the rows (name, term) of a system, and the line of the selections that are made there.

    The start is a point from which the search begins. It changes the effort only.
    """
    discount = Discount(pairs, horizon)
    terms = [term for name, term in pairs]
    point = fixed_times(discount, terms, SIDES, start)
    for side in SIDES:
        terms = [part for value, part in discounted_round(discount, terms, point, side)]
    return point, limit_line(discount, terms)
