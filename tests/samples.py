"""Systems that several tests share."""

from support import NAMES, Source

from gaithold.syntax import parse_term
from gaithold.systems import EventSystem
from gaithold.terms import is_valid_term


def system_of(*texts):
    """The system with these terms, whose events are called a, b, c and so on."""
    return EventSystem([(name, parse_term(text)) for name, text in zip(NAMES, texts)])


def random_systems(seed, many, depth=4):
    """Pairs of a source and a system of one to six events that it made."""
    source = Source(seed)
    for at in range(many):
        rows = source.rows(1 + at % 6, depth)
        if all(is_valid_term(term) for _, term in rows):
            yield source, EventSystem(rows)
