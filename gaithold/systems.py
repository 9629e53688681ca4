"""Systems of named events that recur in rounds."""

from gaithold.errors import (
    DuplicateName, InvalidCount, InvalidName, InvalidRound, InvalidTerm, InvalidTimes, UnknownEvent,
)
from gaithold.stepping import times_after
from gaithold.syntax import format_term
from gaithold.terms import check_names, is_valid_name, is_valid_term

MAX_EVENTS = 6
MAX_ROUNDS = 100


def check_row_names(rows):
    """Raise the first error in the names of rows (name, term)."""
    seen = []
    for name, term in rows:
        if not is_valid_name(name):
            raise InvalidName(name)
        if name in seen:
            raise DuplicateName(name)
        seen.append(name)


def check_row_terms(rows):
    """Raise the first error in the terms of rows (name, term) with distinct names."""
    for name, term in rows:
        if not is_valid_term(term):
            raise InvalidTerm(name)
    known = [name for name, term in rows]
    for name, term in rows:
        check_names(term, known)


class EventSystem:
    """Rows (name, term): each term gives the next time of its event from the times of all events."""

    def __init__(self, rows):
        if not 1 <= len(rows) <= MAX_EVENTS:
            raise InvalidCount(len(rows))
        check_row_names(rows)
        check_row_terms(rows)
        self.pairs = [(name, term) for name, term in rows]

    def rows(self):
        """Return the pairs (name, term) in order."""
        return list(self.pairs)

    def names(self):
        """Return the names in order."""
        return [name for name, term in self.pairs]

    def terms(self):
        """Return the terms in order."""
        return [term for name, term in self.pairs]

    def term(self, name):
        """Return the term of an event."""
        for known, term in self.pairs:
            if known == name:
                return term
        raise UnknownEvent(name)

    def simulate(self, times, *, rounds=1):
        """Return the times after 0 to 100 rounds."""
        if len(times) != len(self.pairs):
            raise InvalidTimes()
        if not 0 <= rounds <= MAX_ROUNDS:
            raise InvalidRound(rounds)
        return times_after(self.pairs, times, rounds)

    def __eq__(self, other):
        return isinstance(other, EventSystem) and self.pairs == other.pairs

    def __len__(self):
        return len(self.pairs)

    def __str__(self):
        return "".join([f"{name}: {format_term(term)}\n" for name, term in self.pairs])

    def __repr__(self):
        return f"EventSystem({len(self.pairs)} events)"
