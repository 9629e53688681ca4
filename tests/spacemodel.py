"""A second workspace for the tests: it keeps every state whole and checks every error on its own."""

from support import as_fraction, pair_of, plain_rounds

from gaithold.errors import (
    CapacityExceeded, DuplicateName, EmptyHistory, InvalidCommand, InvalidCount, InvalidName, InvalidRound, InvalidTerm,
    InvalidTimes, SystemInUse, UnknownEvent, UnknownRun, UnknownSystem,
)
from gaithold.terms import event_names, is_valid_term

KINDS = {'system': 3, 'remove': 2, 'set': 4, 'merge': 4, 'start': 4, 'advance': 3, 'shift': 4, 'stop': 2}
KEYWORDS = ('max', 'min', 'median', 'mix')
FIELDS = {
    InvalidName: 'name', DuplicateName: 'name', CapacityExceeded: 'capacity', InvalidCount: 'quantity', InvalidTerm: 'name',
    UnknownEvent: 'name', UnknownSystem: 'name', UnknownRun: 'name', SystemInUse: 'name', InvalidRound: 'number',
    InvalidCommand: 'first', InvalidTimes: None, EmptyHistory: None,
}


def is_name(name):
    return 1 <= len(name) <= 6 and all(letter in 'abcdefghijklmnopqrstuvwxyz' for letter in name) and name not in KEYWORDS


def told(error):
    """The class of an error and the value of its field."""
    field = FIELDS[type(error)]
    return (type(error), None if field is None else getattr(error, field))


class Refused(Exception):
    """An error that is due, as its class and the value of its field."""


def refuse(condition, error, value=None):
    if condition:
        raise Refused((error, value))


def check_rows(rows):
    refuse(not 1 <= len(rows) <= 6, InvalidCount, len(rows))
    seen = []
    for name, _ in rows:
        refuse(not is_name(name), InvalidName, name)
        refuse(name in seen, DuplicateName, name)
        seen.append(name)
    for name, term in rows:
        refuse(not is_valid_term(term), InvalidTerm, name)
    for _, term in rows:
        for name in event_names(term):
            refuse(name not in seen, UnknownEvent, name)


def check_new(name, taken):
    refuse(not is_name(name), InvalidName, name)
    refuse(name in taken, DuplicateName, name)
    refuse(len(taken) == 6, CapacityExceeded, 6)


def check_free(runs, name):
    users = [run for run in runs if runs[run][0] == name]
    refuse(users, SystemInUse, min(users, default=None))


class SpaceModel:
    def __init__(self):
        self.states = [({}, {})]
        self.at = 0
        self.cache = []
        self.computed = 0

    def now(self):
        return self.states[self.at]

    def apply_all(self, commands):
        """Make a step, or raise Refused."""
        for command in commands:
            first = command[0] if command else None
            refuse(KINDS.get(first) != len(command), InvalidCommand, first)
        systems, runs = (dict(part) for part in self.now())
        for command in commands:
            getattr(self, 'do_' + command[0])(systems, runs, *command[1:])
        self.states = [*self.states[:self.at + 1], (systems, runs)]
        self.move(1)

    def move(self, by):
        refuse(not 0 <= self.at + by < len(self.states), EmptyHistory)
        before = self.now()[0]
        self.at += by
        after = self.now()[0]
        self.cache = [name for name in self.cache if after.get(name) == before[name]]

    def ask(self, name):
        refuse(name not in self.now()[0], UnknownSystem, name)
        if name not in self.cache:
            self.cache.append(name)
            self.computed += 1

    def do_system(self, systems, runs, name, rows):
        check_new(name, systems)
        check_rows(rows)
        systems[name] = [tuple(row) for row in rows]

    def do_remove(self, systems, runs, name):
        refuse(name not in systems, UnknownSystem, name)
        check_free(runs, name)
        del systems[name]

    def do_set(self, systems, runs, name, event, term):
        refuse(name not in systems, UnknownSystem, name)
        events = [one for one, _ in systems[name]]
        refuse(event not in events, UnknownEvent, event)
        refuse(not is_valid_term(term), InvalidTerm, event)
        for one in event_names(term):
            refuse(one not in events, UnknownEvent, one)
        check_free(runs, name)
        systems[name] = [(one, term if one == event else old) for one, old in systems[name]]

    def do_merge(self, systems, runs, name, one, other):
        check_new(name, systems)
        for each in (one, other):
            refuse(each not in systems, UnknownSystem, each)
        check_rows(systems[one] + systems[other])
        systems[name] = systems[one] + systems[other]

    def do_start(self, systems, runs, name, system, times):
        check_new(name, runs)
        refuse(system not in systems, UnknownSystem, system)
        refuse(len(times) != len(systems[system]), InvalidTimes)
        runs[name] = (system, list(times), 0, (0, 1))

    def do_advance(self, systems, runs, name, rounds):
        refuse(name not in runs, UnknownRun, name)
        refuse(not 0 <= rounds <= 100, InvalidRound, rounds)
        system, times, done, shift = runs[name]
        runs[name] = (system, plain_rounds(systems[system], times, rounds), done + rounds, shift)

    def do_shift(self, systems, runs, name, event, amount):
        refuse(name not in runs, UnknownRun, name)
        system, times, done, shift = runs[name]
        events = [one for one, _ in systems[system]]
        refuse(event not in events, UnknownEvent, event)
        moved = [pair_of(as_fraction(time) + as_fraction(amount) * (one == event)) for one, time in zip(events, times)]
        runs[name] = (system, moved, done, pair_of(as_fraction(shift) + abs(as_fraction(amount))))

    def do_stop(self, systems, runs, name):
        refuse(name not in runs, UnknownRun, name)
        del runs[name]
