import unittest

from samples import random_systems, system_of
from support import Source, as_fraction, distance_of, is_canonical, line_at, pair_of, plain_rounds

from gaithold.errors import EmptyHistory, InvalidRound, InvalidTimes, UnknownEvent
from gaithold.regimes import find_regime
from gaithold.runs import Run
from gaithold.systems import EventSystem

A = ('event', 'a')
ONE = EventSystem([('a', ('delay', A, (1, 1)))])
METHODS = (
    'advance', 'shift', 'undo', 'redo', 'system', 'times', 'total_shift', 'deviation', 'deviation_bound', 'time_bounds',
    'clone', '__len__', '__repr__')


def state_of(run):
    return (run.times(), len(run), run.total_shift(), repr(run), run.system())


def depths(run):
    """How often a clone of the run can be undone and redone."""
    found = []
    for name in ('undo', 'redo'):
        other = run.clone()
        many = 0
        try:
            while True:
                getattr(other, name)()
                many += 1
        except EmptyHistory:
            found.append(many)
    return tuple(found)


class Model:
    """A run by Python's own fractions, with all states that it went through."""

    def __init__(self, rows, times):
        self.rows = rows
        self.states = [(list(times), 0, (0, 1))]
        self.at = 0

    def step(self, state):
        self.states = [*self.states[:self.at + 1], state]
        self.at += 1

    def advance(self, rounds):
        times, done, shift = self.states[self.at]
        self.step((plain_rounds(self.rows, times, rounds), done + rounds, shift))

    def shift(self, name, amount):
        times, done, shift = self.states[self.at]
        at = [one for one, _ in self.rows].index(name)
        moved = [pair_of(as_fraction(time) + as_fraction(amount) * (place == at)) for place, time in enumerate(times)]
        self.step((moved, done, pair_of(as_fraction(shift) + abs(as_fraction(amount)))))

    def move(self, by):
        if not 0 <= self.at + by < len(self.states):
            return False
        self.at += by
        return True

    def depths(self):
        return (self.at, len(self.states) - 1 - self.at)


class RunTest(unittest.TestCase):
    def test_examples(self):
        run = Run(ONE, [(0, 1)])
        self.assertIsNone(run.advance(rounds=3))
        self.assertIsNone(run.shift('a', (1, 2)))
        self.assertEqual([run.times(), run.total_shift(), len(run), repr(run)], [[(7, 2)], (1, 2), 3, 'Run(3 rounds)'])
        self.assertIsNone(run.undo())
        run.undo()
        with self.assertRaises(EmptyHistory):
            run.undo()
        self.assertEqual([run.times(), run.total_shift(), len(run), repr(run)], [[(0, 1)], (0, 1), 0, 'Run(0 rounds)'])
        self.assertIsNone(run.redo())
        self.assertEqual([run.times(), run.total_shift(), len(run)], [[(3, 1)], (0, 1), 3])

    def test_methods_stand_in_the_class(self):
        for name in METHODS:
            self.assertIn(name, vars(Run))

    def test_start(self):
        system = system_of('a', 'b')
        for times in ([(1, 2), (0, 1)], ((1, 2), (0, 1))):
            for run in (Run(system, times), Run(times=times, system=system)):
                self.assertEqual(run.times(), [(1, 2), (0, 1)])
                self.assertIsInstance(run.times(), list)
                self.assertEqual(run.system(), system)
                self.assertIsInstance(run.system(), EventSystem)
                self.assertEqual(depths(run), (0, 0))
        for many in (0, 1, 3, 7):
            with self.assertRaises(InvalidTimes):
                Run(system, [(0, 1)] * many)

    def test_keywords(self):
        run = Run(ONE, [(0, 1)])
        run.advance()
        run.shift(amount=(-1, 2), name='a')
        self.assertEqual(run.times(), [(1, 2)])
        self.assertEqual(run.time_bounds(rounds=0), run.time_bounds(0))
        with self.assertRaises(TypeError):
            run.advance(2)

    def test_against_a_model(self):
        for source, system in random_systems(110, 60):
            times = [source.short_pair() for _ in range(len(system))]
            run, model = Run(system, times), Model(system.rows(), times)
            for _ in range(25):
                self.random_step(source, run, model)
                self.assertEqual((run.times(), len(run), run.total_shift()), model.states[model.at])
                self.assertEqual(repr(run), f'Run({len(run)} rounds)')
                self.assertTrue(is_canonical(run.total_shift()))
            self.assertEqual(depths(run), model.depths())

    def random_step(self, source, run, model):
        choice = source.random.choice(('advance', 'shift', 'undo', 'undo', 'redo', 'redo'))
        if choice == 'advance':
            rounds = source.random.choice((0, 1, 1, 2, 5))
            run.advance(rounds=rounds)
            model.advance(rounds)
        elif choice == 'shift':
            name, amount = source.random.choice(run.system().names()), source.short_pair()
            run.shift(name, amount)
            model.shift(name, amount)
        elif model.move(-1 if choice == 'undo' else 1):
            getattr(run, choice)()
        else:
            with self.assertRaises(EmptyHistory) as caught:
                getattr(run, choice)()
            self.assertEqual(caught.exception.tag, 'EmptyHistory')

    def test_empty_steps_are_steps(self):
        run = Run(ONE, [(0, 1)])
        run.advance(rounds=0)
        run.shift('a', (0, 1))
        self.assertEqual(depths(run), (2, 0))
        run.undo()
        self.assertEqual(depths(run), (1, 1))
        run.advance(rounds=0)
        self.assertEqual(depths(run), (2, 0))

    def test_a_new_step_ends_what_can_be_redone(self):
        for step in (lambda run: run.advance(), lambda run: run.shift('a', (1, 1))):
            run = Run(ONE, [(0, 1)])
            run.advance()
            run.undo()
            step(run)
            with self.assertRaises(EmptyHistory):
                run.redo()
            run.undo()
            self.assertEqual(run.times(), [(0, 1)])

    def test_shifts_of_either_sign(self):
        run = Run(system_of('a', 'b'), [(0, 1), (0, 1)])
        run.shift('b', (-1, 3))
        run.shift('a', (1, 2))
        run.shift('b', (1, 3))
        self.assertEqual((run.times(), run.total_shift()), ([(1, 2), (0, 1)], (7, 6)))
        run.undo()
        self.assertEqual((run.times(), run.total_shift()), ([(1, 2), (-1, 3)], (5, 6)))

    def test_errors_change_nothing(self):
        run = Run(ONE, [(0, 1)])
        run.advance(rounds=2)
        run.advance(rounds=3)
        run.undo()
        before = (state_of(run), depths(run))
        for rounds in (-1, 101, 10 ** 30 - 1, -10 ** 29):
            with self.assertRaises(InvalidRound) as caught:
                run.advance(rounds=rounds)
            self.assertEqual(caught.exception.number, rounds)
            with self.assertRaises(InvalidRound) as caught:
                run.time_bounds(rounds)
            self.assertEqual(caught.exception.number, rounds)
        for name in ('b', '', 'max', 'aa'):
            with self.assertRaises(UnknownEvent) as caught:
                run.shift(name, (1, 1))
            self.assertEqual(caught.exception.name, name)
        self.assertEqual((state_of(run), depths(run)), before)
        run.redo()
        with self.assertRaises(EmptyHistory):
            run.redo()
        self.assertEqual((run.times(), depths(run)), ([(5, 1)], (2, 0)))
        for _ in range(2):
            run.undo()
        with self.assertRaises(EmptyHistory):
            run.undo()
        self.assertEqual((run.times(), depths(run)), ([(0, 1)], (0, 2)))

    def test_hundred_rounds(self):
        for source, system in random_systems(111, 12):
            times = [source.short_pair() for _ in range(len(system))]
            run = Run(system, times)
            run.advance(rounds=100)
            self.assertEqual(run.times(), plain_rounds(system.rows(), times, 100))
            run.advance(rounds=100)
            self.assertEqual((len(run), repr(run)), (200, 'Run(200 rounds)'))
            for _ in range(100):
                run.advance()
            self.assertEqual(len(run), 300)

    def test_lists_are_copied_and_new(self):
        times = [(1, 1)]
        run = Run(ONE, times)
        times[0] = (9, 1)
        self.assertEqual(run.times(), [(1, 1)])
        bound = run.deviation_bound()
        for query in (run.times, lambda: run.time_bounds(2), run.system().rows):
            first = query()
            kept = list(first)
            first.clear()
            self.assertEqual(query(), kept)
        run.advance()
        run.undo()
        self.assertEqual((run.times(), run.deviation_bound()), ([(1, 1)], bound))


class DeviationTest(unittest.TestCase):
    def runs(self, seed, many):
        for source, system in random_systems(seed, many):
            yield source, system, Run(system, [source.short_pair() for _ in range(len(system))])

    def step(self, source, run):
        if source.random.random() < 0.5:
            run.advance(rounds=source.random.choice((0, 1, 3, 10)))
        else:
            run.shift(source.random.choice(run.system().names()), source.short_pair())

    def test_against_the_regime(self):
        for source, system, run in self.runs(112, 60):
            times, rates, since = find_regime(system)
            first = distance_of(run.times(), line_at(times, rates, since))
            for _ in range(8):
                wanted = distance_of(run.times(), line_at(times, rates, since + len(run)))
                self.assertEqual(run.deviation(), pair_of(wanted))
                self.assertEqual(run.deviation_bound(), pair_of(first + as_fraction(run.total_shift())))
                self.assertLessEqual(wanted, as_fraction(run.deviation_bound()))
                self.step(source, run)

    def test_time_bounds(self):
        for source, system, run in self.runs(113, 60):
            times, rates, since = find_regime(system)
            for rounds in (0, 1, 7, 100):
                before = (state_of(run), depths(run))
                bounds = run.time_bounds(rounds)
                self.assertIsInstance(bounds, list)
                gap = as_fraction(run.deviation())
                middle = [as_fraction(one) for one in line_at(times, rates, since + len(run) + rounds)]
                self.assertEqual(bounds, [(pair_of(one - gap), pair_of(one + gap)) for one in middle])
                self.assertEqual((state_of(run), depths(run)), before)
                later = system.simulate(run.times(), rounds=rounds)
                for (low, high), one in zip(bounds, later):
                    self.assertTrue(as_fraction(low) <= as_fraction(one) <= as_fraction(high))
                self.step(source, run)

    def test_in_the_regime(self):
        for _, system in random_systems(114, 20):
            times, rates, since = find_regime(system)
            run = Run(system, line_at(times, rates, since))
            run.advance(rounds=10)
            self.assertEqual((run.deviation(), run.deviation_bound()), ((0, 1), (0, 1)))
            self.assertEqual(run.time_bounds(5), [(one, one) for one in line_at(times, rates, since + 15)])

    def test_undo_and_redo(self):
        run = Run(ONE, [(0, 1)])
        first = (run.deviation(), run.deviation_bound())
        run.advance(rounds=4)
        run.shift('a', (7, 2))
        moved = (run.deviation(), run.deviation_bound())
        self.assertEqual(as_fraction(moved[1]), as_fraction(first[1]) + as_fraction((7, 2)))
        run.undo()
        self.assertEqual((run.deviation(), run.deviation_bound()), first)
        run.redo()
        self.assertEqual((run.deviation(), run.deviation_bound()), moved)


class CloneTest(unittest.TestCase):
    def test_same_state_and_history(self):
        source = Source(115)
        for _, system in random_systems(116, 20):
            run = Run(system, [source.short_pair() for _ in range(len(system))])
            model = Model(system.rows(), run.times())
            steps = RunTest()
            for _ in range(12):
                steps.random_step(source, run, model)
            for other in (run.clone(), run.clone().clone()):
                self.assertIsInstance(other, Run)
                self.assertEqual(state_of(other), state_of(run))
                self.assertEqual(depths(other), model.depths())
                self.assertEqual(other.deviation(), run.deviation())
                self.assertEqual(other.deviation_bound(), run.deviation_bound())

    def test_independent_afterwards(self):
        for first in (True, False):
            run = Run(ONE, [(0, 1)])
            run.advance(rounds=2)
            run.advance(rounds=3)
            run.undo()
            other = run.clone()
            kept, moved = (run, other) if first else (other, run)
            before = (state_of(kept), depths(kept))
            moved.redo()
            moved.shift('a', (1, 1))
            moved.undo()
            moved.advance(rounds=9)
            for _ in range(3):
                moved.undo()
            self.assertEqual((state_of(kept), depths(kept)), before)
            kept.redo()
            self.assertEqual(kept.times(), [(5, 1)])
            self.assertEqual(moved.times(), [(0, 1)])


if __name__ == "__main__":
    unittest.main()
