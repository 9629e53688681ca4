"""A workspace of systems and runs, with commands, undo and redo.

A frame is all that a workspace stores: a tuple of a dict from names to systems, and of a dict from names to runs
(system name, times, rounds, total shift). A frame never changes; a command makes a new one.
"""

from gaithold.combine import union
from gaithold.errors import (
    CapacityExceeded, DuplicateName, EmptyHistory, InvalidCommand, InvalidName, InvalidTerm, SystemInUse, UnknownRun,
    UnknownSystem,
)
from gaithold.regimes import find_regime
from gaithold.runs import advanced_state, first_state, shifted_state
from gaithold.systems import EventSystem
from gaithold.terms import check_names, is_valid_name, is_valid_term

MAX_SYSTEMS = 6
MAX_RUNS = 6


def check_new_name(name, taken, capacity):
    """Raise an error unless the name can be added to a dict."""
    if not is_valid_name(name):
        raise InvalidName(name)
    if name in taken:
        raise DuplicateName(name)
    if len(taken) >= capacity:
        raise CapacityExceeded(capacity)


def known_system(frame, name):
    """Return the system with this name."""
    if name not in frame[0]:
        raise UnknownSystem(name)
    return frame[0][name]


def known_run(frame, name):
    """Return the run with this name."""
    if name not in frame[1]:
        raise UnknownRun(name)
    return frame[1][name]


def check_unused(frame, name):
    """Raise SystemInUse with the first run that uses a system."""
    for run in sorted(frame[1]):
        if frame[1][run][0] == name:
            raise SystemInUse(run)


def with_system(frame, name, system):
    """Return the frame with one more or one other system."""
    systems, runs = frame
    return ({**systems, name: system}, runs)


def with_run(frame, name, system, state):
    """Return the frame with one more or one other run."""
    systems, runs = frame
    return (systems, {**runs, name: (system, *state)})


def without(table, name):
    """Return the dict without a name."""
    return {known: table[known] for known in table if known != name}


def add_system(frame, name, rows):
    """Return the frame after the command `system`."""
    check_new_name(name, frame[0], MAX_SYSTEMS)
    return with_system(frame, name, EventSystem(rows))


def remove_system(frame, name):
    """Return the frame after the command `remove`."""
    known_system(frame, name)
    check_unused(frame, name)
    return (without(frame[0], name), frame[1])


def set_term(frame, name, event, term):
    """Return the frame after the command `set`."""
    system = known_system(frame, name)
    # Asked first, because it raises UnknownEvent.
    system.term(event)
    if not is_valid_term(term):
        raise InvalidTerm(event)
    check_names(term, system.names())
    check_unused(frame, name)
    rows = [(known, term if known == event else old) for known, old in system.rows()]
    return with_system(frame, name, EventSystem(rows))


def merge_systems(frame, name, one, other):
    """Return the frame after the command `merge`."""
    check_new_name(name, frame[0], MAX_SYSTEMS)
    return with_system(frame, name, union(known_system(frame, one), known_system(frame, other)))


def start_run(frame, name, system, times):
    """Return the frame after the command `start`."""
    check_new_name(name, frame[1], MAX_RUNS)
    return with_run(frame, name, system, first_state(known_system(frame, system), times))


def advance_run(frame, name, rounds):
    """Return the frame after the command `advance`."""
    system, *state = known_run(frame, name)
    return with_run(frame, name, system, advanced_state(known_system(frame, system), state, rounds))


def shift_run(frame, name, event, amount):
    """Return the frame after the command `shift`."""
    system, *state = known_run(frame, name)
    return with_run(frame, name, system, shifted_state(known_system(frame, system), state, event, amount))


def stop_run(frame, name):
    """Return the frame after the command `stop`."""
    known_run(frame, name)
    return (frame[0], without(frame[1], name))


ACTIONS = {
    "system": add_system,
    "remove": remove_system,
    "set": set_term,
    "merge": merge_systems,
    "start": start_run,
    "advance": advance_run,
    "shift": shift_run,
    "stop": stop_run,
}
LENGTHS = {"system": 3, "remove": 2, "set": 4, "merge": 4, "start": 4, "advance": 3, "shift": 4, "stop": 2}


def check_command(command):
    """Raise InvalidCommand for a tuple that is no command."""
    first = command[0] if len(command) > 0 else None
    if LENGTHS.get(first) != len(command):
        raise InvalidCommand(first)


def frame_after(frame, command):
    """Return the frame after a command."""
    first, *rest = command
    action = ACTIONS[first]
    return action(frame, *rest)


class Workspace:
    """Systems and runs by name, the steps that led to them, and the regimes that were asked for."""

    def __init__(self):
        self.frame = ({}, {})
        self.past = []
        self.future = []
        self.regimes = {}
        self.computed = 0

    def move_to(self, frame):
        """Store a frame, and drop the regimes of all systems that it changes."""
        before, after = self.frame[0], frame[0]
        kept = [name for name in self.regimes if name in after and after[name] == before[name]]
        self.regimes = {name: self.regimes[name] for name in kept}
        self.frame = frame

    def apply(self, command):
        """Apply one command."""
        self.apply_all([command])

    def apply_all(self, commands):
        """Apply all commands as one step."""
        for command in commands:
            check_command(command)
        frame = self.frame
        for command in commands:
            frame = frame_after(frame, command)
        self.past.append(self.frame)
        self.future = []
        self.move_to(frame)

    def undo(self):
        """Take back the last step."""
        if len(self.past) == 0:
            raise EmptyHistory()
        self.future.append(self.frame)
        self.move_to(self.past.pop())

    def redo(self):
        """Make the step again that was taken back last."""
        if len(self.future) == 0:
            raise EmptyHistory()
        self.past.append(self.frame)
        self.move_to(self.future.pop())

    def names(self):
        """Return the names of the systems in ascending order."""
        return sorted(self.frame[0])

    def runs(self):
        """Return the names of the runs in ascending order."""
        return sorted(self.frame[1])

    def system(self, name):
        """Return the system with this name."""
        return known_system(self.frame, name)

    def run_state(self, name):
        """Return the system name, the times, the rounds and the total shift of a run."""
        system, times, rounds, shifted = known_run(self.frame, name)
        return (system, list(times), rounds, shifted)

    def regime_of(self, name):
        """Return the regime of a system, from the cache if it is there."""
        system = known_system(self.frame, name)
        if name not in self.regimes:
            self.regimes[name] = find_regime(system)
            self.computed += 1
        times, rates, since = self.regimes[name]
        return (list(times), list(rates), since)

    def computations(self):
        """Return how many regimes were computed."""
        return self.computed

    def cached(self):
        """Return the names of the systems whose regimes are cached, in ascending order."""
        return sorted(self.regimes)

    def history(self):
        """Return the numbers of steps that can be undone and redone."""
        return (len(self.past), len(self.future))

    def clone(self):
        """Return an independent workspace with the same state, history, cache and count of computations."""
        other = Workspace()
        other.frame = self.frame
        other.past = list(self.past)
        other.future = list(self.future)
        other.regimes = dict(self.regimes)
        other.computed = self.computed
        return other

    def __eq__(self, other):
        return isinstance(other, Workspace) and self.frame == other.frame

    def __len__(self):
        return len(self.frame[0])

    def __repr__(self):
        return f"Workspace({len(self.frame[0])} systems, {len(self.frame[1])} runs)"
