"""Systems made of other systems."""

from gaithold.errors import InvalidRound, NameMismatch, TermTooLarge
from gaithold.systems import EventSystem
from gaithold.terms import is_small, subterms, with_subterms

MAX_REPEATS = 6
OPPOSITES = {"max": "min", "min": "max"}


def union(one, other):
    """Return the system with the rows of both systems."""
    return EventSystem(one.rows() + other.rows())


def substitute(term, table):
    """Return the term with the terms of a dict in place of the event references."""
    if term[0] == "event":
        return table[term[1]]
    return with_subterms(term, [substitute(part, table) for part in subterms(term)])


def compose(one, other):
    """Return the system whose round is a round of the first system followed by a round of the second one."""
    if one.names() != other.names():
        raise NameMismatch()
    table = dict(one.rows())
    rows = [(name, substitute(term, table)) for name, term in other.rows()]
    for name, term in rows:
        if not is_small(term):
            raise TermTooLarge(name)
    return EventSystem(rows)


def repeat(system, quantity):
    """Return the system whose round is 1 to 6 rounds of a system."""
    if not 1 <= quantity <= MAX_REPEATS:
        raise InvalidRound(quantity)
    result = system
    for turn in range(quantity - 1):
        result = compose(result, system)
    return result


def negate_term(term):
    """Return the term whose value is the negative one under negative times."""
    kind = term[0]
    parts = [negate_term(part) for part in subterms(term)]
    if kind == "delay":
        return ("delay", parts[0], (-term[2][0], term[2][1]))
    if kind in OPPOSITES:
        return (OPPOSITES[kind], *parts)
    return with_subterms(term, parts)


def negate(system):
    """Return the system with max and min swapped and all delays negated."""
    return EventSystem([(name, negate_term(term)) for name, term in system.rows()])
