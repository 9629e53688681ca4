"""Systems in which one side of the selections is fixed."""

from gaithold.rationals import common_denominator
from gaithold.regimes import find_regime, regime_start
from gaithold.selections import select
from gaithold.stepping import weight_scale
from gaithold.systems import EventSystem
from gaithold.terms import delays_in, subterms


def restrict(system, side):
    """Return the system with the selections of one side that its regime makes in the end, and since when it does."""
    times, rates, since = find_regime(system)
    delays = [amount for term in system.terms() for amount in delays_in(term)]
    unit = common_denominator([*times, *rates, *delays])
    # The rate goes first: in the end it decides which line is later, and the offset only among equal rates.
    lines = [[num * (unit // den) for num, den in line] for line in zip(rates, times)]
    table = dict(zip(system.names(), lines))
    rows = [(name, select(term, table, unit, weight_scale(term), side)[1]) for name, term in system.rows()]
    restriction = EventSystem(rows)
    return restriction, regime_start(restriction, times, rates)


def lower_restriction(system):
    """Return a lower restriction, and since when the regime of the system is one of it."""
    return restrict(system, "max")


def upper_restriction(system):
    """Return an upper restriction, and since when the regime of the system is one of it."""
    return restrict(system, "min")


def own_values(term):
    """Return what a term contains beside its kind and its subterms."""
    if term[0] == "event":
        return [term[1]]
    if term[0] == "delay":
        return [term[2]]
    return [pair[0] for pair in term[1:]] if term[0] == "mix" else []


def is_pair_of(operands, other, side):
    """Return whether a term selects two of three operands in their order, for the side that does not select."""
    if other[0] != ("min" if side == "max" else "max") or len(other) != 3:
        return False
    first = [is_selection(part, other[1], side) for part in operands]
    second = [is_selection(part, other[2], side) for part in operands]
    return first[0] and (second[1] or second[2]) or first[1] and second[2]


def is_selection(term, other, side):
    """Return whether a term is another one with the selections of one side made."""
    operands = subterms(term)
    if term[0] == side:
        return any([is_selection(part, other, side) for part in operands])
    if term[0] == "median":
        return is_pair_of(operands, other, side)
    if other[0] != term[0] or own_values(other) != own_values(term) or len(other) != len(term):
        return False
    return all([is_selection(part, same, side) for part, same in zip(operands, subterms(other))])


def is_restriction(system, other, *, lower=True):
    """Return whether a system is a lower or, if lower is False, an upper restriction of the first one."""
    if other.names() != system.names():
        return False
    side = "max" if lower else "min"
    return all([is_selection(term, same, side) for term, same in zip(system.terms(), other.terms())])
