"""Runs of a system, with manual shifts, undo and redo.

The state of a run is a tuple of its times, of the rounds advanced and of the sum of the absolute values of all shifts.
"""

from gaithold.errors import EmptyHistory, InvalidRound, InvalidTimes
from gaithold.rationals import ZERO, add, magnitude, subtract
from gaithold.regimes import distance, find_regime, regime_times
from gaithold.systems import MAX_ROUNDS


def first_state(system, times):
    """Return the state of a run of a system that starts at these times."""
    if len(times) != len(system):
        raise InvalidTimes()
    return (tuple(times), 0, ZERO)


def advanced_state(system, state, rounds):
    """Return the state some rounds later."""
    times, done, shifted = state
    return (tuple(system.simulate(times, rounds=rounds)), done + rounds, shifted)


def shifted_state(system, state, name, amount):
    """Return the state with the time of one event shifted."""
    # Asked first, because it raises UnknownEvent.
    system.term(name)
    times, done, shifted = state
    moved = [add(time, amount) if known == name else time for known, time in zip(system.names(), times)]
    return (tuple(moved), done, add(shifted, magnitude(amount)))


class Run:
    """A system at its current times, with the steps that led there."""

    def __init__(self, system, times):
        self.state = first_state(system, times)
        self.plan = system
        self.origin = self.state[0]
        self.past = []
        self.future = []
        self.known = None

    def step_to(self, state):
        """Make one step to a state."""
        self.past.append(self.state)
        self.future = []
        self.state = state

    def advance(self, *, rounds=1):
        """Advance by 0 to 100 rounds."""
        self.step_to(advanced_state(self.plan, self.state, rounds))

    def shift(self, name, amount):
        """Add a fraction to the current time of an event."""
        self.step_to(shifted_state(self.plan, self.state, name, amount))

    def undo(self):
        """Take back the last step."""
        if len(self.past) == 0:
            raise EmptyHistory()
        self.future.append(self.state)
        self.state = self.past.pop()

    def redo(self):
        """Make the step again that was taken back last."""
        if len(self.future) == 0:
            raise EmptyHistory()
        self.past.append(self.state)
        self.state = self.future.pop()

    def system(self):
        """Return the system."""
        return self.plan

    def times(self):
        """Return the current times."""
        return list(self.state[0])

    def total_shift(self):
        """Return the sum of the absolute values of all shifts."""
        return self.state[2]

    def regime(self):
        """Return the regime of the system."""
        # Kept, because a system never changes and its regime takes long to find.
        if self.known is None:
            self.known = find_regime(self.plan)
        return self.known

    def deviation(self):
        """Return the distance between the current times and the regime."""
        return distance(self.state[0], regime_times(self.regime(), self.state[1]))

    def deviation_bound(self):
        """Return what the deviation cannot exceed: the initial one plus all shifts."""
        return add(distance(self.origin, regime_times(self.regime(), 0)), self.state[2])

    def time_bounds(self, rounds):
        """Return for each event the pair of times between which it stays after further rounds without shifts."""
        if not 0 <= rounds <= MAX_ROUNDS:
            raise InvalidRound(rounds)
        gap = self.deviation()
        later = regime_times(self.regime(), self.state[1] + rounds)
        return [(subtract(time, gap), add(time, gap)) for time in later]

    def clone(self):
        """Return an independent run with the same state and history."""
        other = Run(self.plan, self.origin)
        other.state = self.state
        other.past = list(self.past)
        other.future = list(self.future)
        other.known = self.known
        return other

    def __len__(self):
        return len(range(self.state[1]))

    def __repr__(self):
        return f"Run({self.state[1]} rounds)"
