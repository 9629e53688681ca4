"""How far an event can be delayed within a limit of a rate."""

from gaithold.errors import InvalidLimit, TermTooLarge
from gaithold.rationals import is_less
from gaithold.regimes import find_regime
from gaithold.systems import EventSystem
from gaithold.terms import is_small

MAX_DELAY = 1000


def delay_event(system, name, amount):
    """Return the system in which an event is delayed by a fraction."""
    term = ("delay", system.term(name), amount)
    if not is_small(term):
        raise TermTooLarge(name)
    return EventSystem([(known, term if known == name else old) for known, old in system.rows()])


def check_slack(system, name, target, limit):
    """Raise the first error in the arguments of find_slack."""
    for known in (name, target):
        system.term(known)
    if not 0 <= limit <= MAX_DELAY:
        raise InvalidLimit(limit)


def delayed_regime(system, name, delay):
    """Return the regime of the system in which an event is delayed by an integer."""
    return find_regime(delay_event(system, name, (delay, 1)))


def find_slack(system, name, *, target, max_rate, limit=MAX_DELAY):
    """Return the greatest integer delay of an event under which the rate of the target stays within max_rate."""
    check_slack(system, name, target, limit)
    at = system.names().index(target)
    regime = delayed_regime(system, name, 0)
    if is_less(max_rate, regime[1][at]):
        return ("exceeded", regime)
    next_regime = delayed_regime(system, name, limit)
    if not is_less(max_rate, next_regime[1][at]):
        return ("unlimited", next_regime)
    delay, too_much = 0, limit
    # No rate decreases when a delay increases, so halving finds the last delay within the limit.
    while too_much - delay > 1:
        middle = (delay + too_much) // 2
        found = delayed_regime(system, name, middle)
        if is_less(max_rate, found[1][at]):
            too_much, next_regime = middle, found
        else:
            delay, regime = middle, found
    return ("limited", delay, regime, next_regime)
