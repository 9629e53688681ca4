"""Regimes: lines that a system follows forever, and its asymptotic rates."""

from gaithold.errors import InvalidRound, InvalidTimes
from gaithold.piecewise import trace
from gaithold.rationals import (
    ZERO, add, ceiling, common_denominator, index_of_max, is_less, least_multiple, magnitude, multiply, subtract,
)
from gaithold.stepping import weight_scale
from gaithold.strategies import approach
from gaithold.terms import delays_in, scale_delays

FIRST_HORIZON = 1 << 32


def traced_rows(system, times, rates, since):
    """Return for each event the pieces of its term along lines from an instant on, and the wanted (offset, rate).

    For each event all values are multiplied by an integer that makes them integers: reducing long fractions at every
    step takes most of the time.
    """
    shared = common_denominator([*times, *rates])
    rows = []
    for term, time, rate in zip(system.terms(), times, rates):
        unit = least_multiple(shared, common_denominator(delays_in(term)))
        factor = (unit * weight_scale(term), 1)
        lines = [(multiply(factor, offset), multiply(factor, slope)) for offset, slope in zip(times, rates)]
        pieces = trace(scale_delays(term, factor), dict(zip(system.names(), lines)), since=(since, 1))
        rows.append((pieces, (multiply(factor, add(time, rate)), multiply(factor, rate))))
    return rows


def regime_start(system, times, rates):
    """Return the least integer from which on times and rates are a regime, or None if they never are."""
    rows = traced_rows(system, times, rates, 0)
    if any([pieces[-1][1:] != wanted for pieces, wanted in rows]):
        return None
    starts = [pieces[-1][0] for pieces, wanted in rows]
    return ceiling(starts[index_of_max(starts)])


def find_regime(system):
    """Return a regime as a tuple of times, rates and the integer from which on they hold."""
    horizon = FIRST_HORIZON
    point = ([0] * len(system), 1)
    while True:
        point, (times, rates) = approach(system.rows(), horizon, point)
        since = regime_start(system, times, rates)
        if since is not None:
            return times, rates, since
        # Every great horizon leads to a regime, so the search ends.
        horizon *= horizon


def rates_of(system):
    """Return the asymptotic rates in order."""
    return find_regime(system)[1]


def rate_of(system, name):
    """Return the asymptotic rate of an event."""
    # Asked first, because it raises UnknownEvent.
    system.term(name)
    return rates_of(system)[system.names().index(name)]


def is_regime(system, times, rates, since):
    """Return whether the system follows the lines at every instant of at least since."""
    if len(times) != len(system) or len(rates) != len(system):
        raise InvalidTimes()
    if since < 0:
        raise InvalidRound(since)
    rows = traced_rows(system, times, rates, since)
    return all([pieces == [((since, 1), *wanted)] for pieces, wanted in rows])


def distance(one, other):
    """Return the greatest absolute difference of two lists of times at the same index."""
    if len(one) != len(other):
        raise InvalidTimes()
    greatest = ZERO
    for left, right in zip(one, other):
        gap = magnitude(subtract(left, right))
        if is_less(greatest, gap):
            greatest = gap
    return greatest


def regime_times(regime, rounds):
    """Return the times of a regime a number of rounds after its start."""
    times, rates, since = regime
    return [add(time, multiply((since + rounds, 1), rate)) for time, rate in zip(times, rates)]
