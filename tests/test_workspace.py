import copy
import unittest

from samples import system_of
from spacemodel import FIELDS, Refused, SpaceModel, told
from support import Source, chain

from gaithold.errors import (
    CapacityExceeded, DuplicateName, EmptyHistory, InvalidCommand, InvalidCount, InvalidName, InvalidRound, InvalidTerm,
    InvalidTimes, SystemInUse, UnknownEvent, UnknownRun, UnknownSystem,
)
from gaithold.regimes import find_regime, is_regime, rates_of
from gaithold.runs import Run
from gaithold.syntax import parse_term
from gaithold.systems import EventSystem
from gaithold.workspace import MAX_RUNS, MAX_SYSTEMS, Workspace

A = ('event', 'a')
B = ('event', 'b')
STEP = (('a', ('delay', A, (1, 1))),)
PAIR = (('b', ('max', B, ('event', 'c'))), ('c', ('delay', ('event', 'c'), (1, 2))))
METHODS = (
    'apply', 'apply_all', 'undo', 'redo', 'names', 'runs', 'system', 'run_state', 'regime_of', 'computations', 'cached',
    'history', 'clone', '__eq__', '__len__', '__repr__')
ERRORS = tuple(FIELDS)


def picture(space):
    """All that the queries tell of a workspace, except for its regimes."""
    return (
        [(name, space.system(name).rows()) for name in space.names()],
        [(name, space.run_state(name)) for name in space.runs()],
        space.history(), space.cached(), space.computations(), len(space), repr(space))


def picture_of_model(model):
    systems, runs = model.now()
    return (
        sorted(systems.items()), sorted(runs.items()), (model.at, len(model.states) - 1 - model.at),
        sorted(model.cache), model.computed, len(systems), f'Workspace({len(systems)} systems, {len(runs)} runs)')


def filled():
    """A workspace with two systems and two runs, made in four steps."""
    space = Workspace()
    space.apply(('system', 'w', STEP))
    space.apply(('system', 'v', PAIR))
    space.apply_all([('start', 's', 'w', ((0, 1),)), ('start', 'r', 'w', ((5, 2),))])
    space.apply(('advance', 'r', 2))
    return space


class Case(unittest.TestCase):
    def refused(self, call, error, value=None):
        with self.assertRaises(ERRORS) as caught:
            call()
        self.assertEqual(told(caught.exception), (error, value))
        self.assertEqual(caught.exception.tag, error.__name__)

    def check_refused(self, space, command, error, value=None):
        """The command fails alone, in a batch and behind others, and nothing changes."""
        before = picture(space)
        self.refused(lambda: space.apply(command), error, value)
        self.refused(lambda: space.apply(command=command), error, value)
        self.refused(lambda: space.apply_all([command]), error, value)
        self.refused(lambda: space.apply_all(([command] * 2)), error, value)
        self.assertEqual(picture(space), before)


class WorkspaceTest(Case):
    def test_examples(self):
        space = Workspace()
        self.assertIsNone(space.apply(('system', 'w', (('a', ('delay', ('event', 'a'), (1, 1))),))))
        self.assertIsNone(space.apply_all([('start', 'r', 'w', ((0, 1),)), ('advance', 'r', 2)]))
        self.assertIsNone(space.undo())
        self.assertIsNone(space.redo())
        wanted = [('w', [(2, 1)], 2, (0, 1)), (2, 0), 'Workspace(1 systems, 1 runs)']
        self.assertEqual([space.run_state('r'), space.history(), repr(space)], wanted)
        self.refused(lambda: Workspace().apply(('remove', 'w')), UnknownSystem, 'w')

    def test_limits_and_methods(self):
        self.assertEqual((MAX_SYSTEMS, MAX_RUNS), (6, 6))
        for name in METHODS:
            self.assertIn(name, vars(Workspace))

    def test_empty(self):
        space = Workspace()
        self.assertEqual(picture(space), ([], [], (0, 0), [], 0, 0, 'Workspace(0 systems, 0 runs)'))
        for query in (space.undo, space.redo):
            self.refused(query, EmptyHistory)

    def test_lookups(self):
        space = filled()
        self.assertEqual(space.names(), ['v', 'w'])
        self.assertEqual(space.runs(), ['r', 's'])
        self.assertIsInstance(space.system('w'), EventSystem)
        self.assertEqual(space.system(name='w'), EventSystem(STEP))
        self.assertEqual(space.run_state(name='r'), ('w', [(9, 2)], 2, (0, 1)))
        self.assertIsInstance(space.run_state('r'), tuple)
        self.assertIsInstance(space.run_state('r')[1], list)
        self.assertIsInstance(space.history(), tuple)
        for name in ('r', 'x', '', 'max'):
            self.refused(lambda: space.system(name), UnknownSystem, name)
            self.refused(lambda: space.regime_of(name), UnknownSystem, name)
        for name in ('w', 'x', '', 'max'):
            self.refused(lambda: space.run_state(name), UnknownRun, name)
        self.assertEqual(space.computations(), 0)

    def test_run_with_the_name_of_a_system(self):
        space = filled()
        space.apply(('start', 'w', 'v', [(0, 1), (1, 1)]))
        self.assertEqual(space.run_state('w'), ('v', [(0, 1), (1, 1)], 0, (0, 1)))
        self.assertEqual(space.system('w'), EventSystem(STEP))
        self.check_refused(space, ('remove', 'v'), SystemInUse, 'w')

    def test_returned_lists_are_new(self):
        space = filled()
        space.regime_of('w')
        before = picture(space)
        for query in (space.names, space.runs, space.cached, lambda: space.run_state('r')[1], space.system('v').rows):
            query().clear()
            self.assertEqual(picture(space), before)

    def test_given_lists_are_copied(self):
        space = Workspace()
        rows, times = [['a', STEP[0][1]]], [(0, 1)]
        batch = [('system', 'w', rows), ('start', 'r', 'w', times)]
        kept = copy.deepcopy(batch)
        space.apply_all(batch)
        self.assertEqual(batch, kept)
        before = picture(space)
        rows[0][1] = A
        rows.append(('b', A))
        times[0] = (7, 1)
        times.append((1, 1))
        batch.clear()
        self.assertEqual(picture(space), before)
        space.undo()
        space.redo()
        self.assertEqual(picture(space), before)
        space.apply(('advance', 'r', 1))
        self.assertEqual(space.run_state('r')[1], [(1, 1)])


class CommandsTest(Case):
    def full(self):
        space = Workspace()
        for name in ('f', 'e', 'd', 'c', 'b', 'a'):
            space.apply(('system', name, STEP))
            space.apply(('start', name, name, [(0, 1)]))
        return space

    def test_system(self):
        space = filled()
        for name in ('', 'max', 'abcdefg', 'A', 'w w', 'w1'):
            self.check_refused(space, ('system', name, []), InvalidName, name)
        self.check_refused(space, ('system', 'w', []), DuplicateName, 'w')
        for rows, error, value in (
            ([], InvalidCount, 0), (STEP * 7, InvalidCount, 7), ([('max', A)], InvalidName, 'max'),
            ([('a', A), ('a', ())], DuplicateName, 'a'), ([('a', ())], InvalidTerm, 'a'), ([('a', B)], UnknownEvent, 'b'),
            ([('a', B), ('b', ('max',))], InvalidTerm, 'b'),
        ):
            self.check_refused(space, ('system', 'x', rows), error, value)
        space.apply(('system', 'x', list(STEP)))
        self.assertEqual(space.system('x'), EventSystem(STEP))

    def test_capacity(self):
        space = self.full()
        for name in ('max', ''):
            self.check_refused(space, ('system', name, []), InvalidName, name)
            self.check_refused(space, ('merge', name, 'x', 'y'), InvalidName, name)
            self.check_refused(space, ('start', name, 'x', []), InvalidName, name)
        self.check_refused(space, ('system', 'c', []), DuplicateName, 'c')
        self.check_refused(space, ('merge', 'c', 'x', 'y'), DuplicateName, 'c')
        self.check_refused(space, ('start', 'c', 'x', []), DuplicateName, 'c')
        self.check_refused(space, ('system', 'x', []), CapacityExceeded, 6)
        self.check_refused(space, ('merge', 'x', 'y', 'z'), CapacityExceeded, 6)
        self.check_refused(space, ('start', 'x', 'y', []), CapacityExceeded, 6)
        self.assertEqual(repr(space), 'Workspace(6 systems, 6 runs)')

    def test_room_after_a_removal(self):
        space = self.full()
        space.apply(('stop', 'c'))
        space.apply(('start', 'x', 'a', [(0, 1)]))
        self.check_refused(space, ('start', 'y', 'a', [(0, 1)]), CapacityExceeded, 6)
        space.apply_all([('remove', 'c'), ('system', 'z', STEP)])
        self.check_refused(space, ('system', 'y', STEP), CapacityExceeded, 6)
        self.assertEqual((space.names(), space.runs()), (list('abdefz'), list('abdefx')))
        space.undo()
        self.check_refused(space, ('system', 'y', STEP), CapacityExceeded, 6)

    def test_remove(self):
        space = filled()
        self.check_refused(space, ('remove', 'x'), UnknownSystem, 'x')
        self.check_refused(space, ('remove', 'r'), UnknownSystem, 'r')
        self.check_refused(space, ('remove', 'w'), SystemInUse, 'r')
        space.apply(('start', 'q', 'v', [(0, 1)] * 2))
        self.check_refused(space, ('remove', 'w'), SystemInUse, 'r')
        self.check_refused(space, ('remove', 'v'), SystemInUse, 'q')
        space.apply_all([('stop', 'r'), ('stop', 's'), ('remove', 'w')])
        self.assertEqual((space.names(), space.runs()), (['v'], ['q']))

    def test_set(self):
        space = filled()
        unknown = ('max', ('event', 'y'), ('event', 'z'))
        self.check_refused(space, ('set', 'x', 'z', ()), UnknownSystem, 'x')
        self.check_refused(space, ('set', 'w', 'z', ()), UnknownEvent, 'z')
        for term in ((), ('max',), ('delay', A, (2, 4)), chain(11), ('event', 'max')):
            self.check_refused(space, ('set', 'w', 'a', term), InvalidTerm, 'a')
        self.check_refused(space, ('set', 'w', 'a', unknown), UnknownEvent, 'y')
        self.check_refused(space, ('set', 'v', 'b', ('max', B, ('event', 'z'), A)), UnknownEvent, 'z')
        self.check_refused(space, ('set', 'w', 'a', A), SystemInUse, 'r')
        space.apply(('stop', 'r'))
        self.check_refused(space, ('set', 'w', 'a', A), SystemInUse, 's')
        space.apply(('set', 'v', 'c', B))
        self.assertEqual(space.system('v').rows(), [PAIR[0], ('c', B)])
        space.apply(('set', 'v', 'b', chain(1)[:1] + ('c',)))
        self.assertEqual(space.system('v').rows(), [('b', ('event', 'c')), ('c', B)])

    def test_merge(self):
        space = filled()
        for name in ('', 'mix'):
            self.check_refused(space, ('merge', name, 'x', 'y'), InvalidName, name)
        self.check_refused(space, ('merge', 'v', 'x', 'y'), DuplicateName, 'v')
        self.check_refused(space, ('merge', 'u', 'x', 'y'), UnknownSystem, 'x')
        self.check_refused(space, ('merge', 'u', 'w', 'y'), UnknownSystem, 'y')
        self.check_refused(space, ('merge', 'u', 'x', 'w'), UnknownSystem, 'x')
        self.check_refused(space, ('merge', 'u', 'w', 'w'), DuplicateName, 'a')
        space.apply(('merge', 'u', 'w', 'v'))
        self.assertEqual(space.system('u').rows(), [*STEP, *PAIR])
        space.apply(('merge', 't', 'v', 'w'))
        self.assertEqual(space.system('t').rows(), [*PAIR, *STEP])
        space.apply(('system', 'k', [(name, A) for name in 'adef']))
        self.check_refused(space, ('merge', 'n', 'k', 'u'), InvalidCount, 7)
        self.check_refused(space, ('merge', 'n', 'w', 'k'), DuplicateName, 'a')

    def test_start(self):
        space = filled()
        for name in ('', 'min', 'A'):
            self.check_refused(space, ('start', name, 'x', []), InvalidName, name)
        self.check_refused(space, ('start', 'r', 'x', []), DuplicateName, 'r')
        self.check_refused(space, ('start', 'x', 'r', []), UnknownSystem, 'r')
        for times in ([], [(0, 1)], [(0, 1)] * 3):
            self.check_refused(space, ('start', 'x', 'v', times), InvalidTimes)
        space.apply(('start', 'x', 'v', ((1, 3), (0, 1))))
        self.assertEqual(space.run_state('x'), ('v', [(1, 3), (0, 1)], 0, (0, 1)))

    def test_advance_shift_and_stop(self):
        space = filled()
        for command in (('advance', 'x', -1), ('shift', 'x', 'z', (1, 1)), ('stop', 'x')):
            self.check_refused(space, command, UnknownRun, 'x')
        self.check_refused(space, ('advance', 'w', 1), UnknownRun, 'w')
        for rounds in (-1, 101, 10 ** 30 - 1):
            self.check_refused(space, ('advance', 'r', rounds), InvalidRound, rounds)
        self.check_refused(space, ('shift', 'r', 'b', (1, 1)), UnknownEvent, 'b')
        space.apply(('advance', 'r', 100))
        space.apply(('shift', 'r', 'a', (-1, 3)))
        space.apply(('shift', 'r', 'a', (1, 2)))
        space.apply(('advance', 'r', 0))
        self.assertEqual(space.run_state('r'), ('w', [(314, 3)], 102, (5, 6)))
        self.assertEqual(space.run_state('s'), ('w', [(0, 1)], 0, (0, 1)))
        space.apply(('stop', 'r'))
        self.assertEqual(space.runs(), ['s'])

    def test_invalid_commands(self):
        space = filled()
        commands = [(), ('x',), ('',), ('System', 'w', STEP), ('names',), ('undo',), ('do_stop', 'r'), ('apply', 'r')]
        good = [
            ('system', 'k', STEP), ('remove', 'v'), ('set', 'v', 'b', B), ('merge', 'k', 'w', 'v'), ('start', 'k', 'w', [(0, 1)]),
            ('advance', 'r', 1), ('shift', 'r', 'a', (1, 1)), ('stop', 'r')]
        for command in good:
            space.clone().apply(command)
            commands += [command[:size] for size in range(1, len(command))] + [(*command, command[-1])]
        for command in commands:
            first = command[0] if command else None
            self.check_refused(space, command, InvalidCommand, first)
            before = picture(space)
            self.refused(lambda: space.apply_all([('stop', 'x'), command, ()]), InvalidCommand, first)
            self.refused(lambda: space.apply_all((good[0], command)), InvalidCommand, first)
            self.assertEqual(picture(space), before)


class HistoryTest(Case):
    def test_batches(self):
        space = filled()
        before = picture(space)
        batch = [('stop', 'r'), ('stop', 's'), ('set', 'w', 'a', A), ('remove', 'x'), ('stop', 'y')]
        for commands in (batch, tuple(batch)):
            kept = copy.deepcopy(commands)
            self.refused(lambda: space.apply_all(commands), UnknownSystem, 'x')
            self.assertEqual((commands, picture(space)), (kept, before))
        space.apply_all(commands=tuple(batch[:3]))
        self.assertEqual((space.history(), space.runs(), space.system('w').terms()), ((5, 0), [], [A]))
        space.undo()
        self.assertEqual(picture(space)[:2], before[:2])
        self.assertEqual(space.history(), (4, 1))

    def test_empty_batch_is_a_step(self):
        space = filled()
        for batch in ([], ()):
            space.apply_all(batch)
        self.assertEqual(space.history(), (6, 0))
        space.undo()
        self.assertEqual(space.history(), (5, 1))
        space.apply_all([])
        self.assertEqual(space.history(), (6, 0))

    def test_undo_and_redo(self):
        space = filled()
        pictures = [picture(space)[:2]]
        while space.history()[0] > 0:
            space.undo()
            pictures.append(picture(space)[:2])
        self.assertEqual((space.history(), pictures[-1]), ((0, 4), ([], [])))
        self.refused(space.undo, EmptyHistory)
        for wanted in reversed(pictures[:-1]):
            space.redo()
            self.assertEqual(picture(space)[:2], wanted)
        self.refused(space.redo, EmptyHistory)
        self.assertEqual(space.history(), (4, 0))

    def test_failing_commands_keep_what_can_be_redone(self):
        space = filled()
        space.undo()
        self.check_refused(space, ('stop', 'x'), UnknownRun, 'x')
        self.check_refused(space, (), InvalidCommand)
        self.assertEqual(space.history(), (3, 1))
        space.redo()
        self.assertEqual(space.run_state('r')[2], 2)

    def test_a_step_ends_what_can_be_redone(self):
        space = filled()
        space.undo()
        space.apply(('stop', 'r'))
        self.assertEqual(space.history(), (4, 0))
        self.refused(space.redo, EmptyHistory)


class CloneTest(Case):
    def test_clones(self):
        space = filled()
        space.regime_of('w')
        space.regime_of('v')
        space.undo()
        for other in (space.clone(), space.clone().clone()):
            self.assertIsInstance(other, Workspace)
            self.assertEqual(picture(other), picture(space))
            self.assertTrue(other == space)

    def test_independent_afterwards(self):
        for swap in (False, True):
            space = filled()
            space.regime_of('w')
            space.undo()
            other = space.clone()
            kept, moved = (other, space) if swap else (space, other)
            before = picture(kept)
            moved.redo()
            moved.apply_all([('stop', 'r'), ('stop', 's'), ('set', 'w', 'a', A)])
            moved.regime_of('w')
            moved.regime_of('v')
            for _ in range(4):
                moved.undo()
            self.assertEqual(picture(kept), before)
            self.assertFalse(kept == moved)
            kept.redo()
            self.assertEqual(kept.run_state('r'), ('w', [(9, 2)], 2, (0, 1)))
            self.assertEqual((kept.cached(), kept.computations(), moved.computations()), (['w'], 1, 3))

    def test_equality(self):
        space = filled()
        other = Workspace()
        other.apply_all([
            ('system', 'v', list(PAIR)), ('system', 'w', list(STEP)), ('start', 'r', 'w', [(5, 2)]), ('advance', 'r', 1),
            ('advance', 'r', 1), ('start', 's', 'w', [(0, 1)])])
        self.assertTrue(space == other)
        self.assertFalse(space != other)
        other.regime_of('w')
        self.assertTrue(space == other)
        for command in (
            ('shift', 'r', 'a', (0, 1)), ('advance', 'r', 0), ('stop', 's'), ('advance', 's', 1), ('shift', 's', 'a', (1, 1)),
            ('system', 'x', STEP), ('remove', 'v'), ('set', 'v', 'b', B), ('start', 'x', 'w', [(0, 1)]),
        ):
            changed = other.clone()
            changed.apply(command)
            equal = command in (('shift', 'r', 'a', (0, 1)), ('advance', 'r', 0))
            self.assertIs(changed == space, equal, command)
            self.assertIs(changed != space, not equal, command)
            changed.undo()
            self.assertTrue(changed == space)
        # Two shifts that cancel leave the times as they were, but not the total shift.
        other.apply_all([('shift', 's', 'a', (1, 1)), ('shift', 's', 'a', (-1, 1))])
        self.assertEqual(other.run_state('s')[1], space.run_state('s')[1])
        self.assertFalse(other == space)
        self.assertTrue(Workspace() == Workspace())

    def test_order_of_rows_counts(self):
        one, other = Workspace(), Workspace()
        one.apply(('system', 'v', PAIR))
        other.apply(('system', 'v', PAIR[::-1]))
        self.assertFalse(one == other)

    def test_other_kinds_are_not_equal(self):
        space = Workspace()
        for thing in (None, 0, '', (), ({}, {}), [], {}, EventSystem(STEP), Run(EventSystem(STEP), [(0, 1)]), repr(space), object()):
            self.assertFalse(space == thing)
            self.assertTrue(space != thing)
            self.assertFalse(thing == space)


class CacheTest(Case):
    def test_regimes(self):
        space = filled()
        for name in ('w', 'v', 'w'):
            regime = space.regime_of(name)
            self.assertEqual(regime, find_regime(space.system(name)))
            self.assertIsInstance(regime, tuple)
            self.assertIsInstance(regime[0], list)
            self.assertIs(is_regime(space.system(name), *space.regime_of(name=name)), True)
        self.assertEqual((space.cached(), space.computations()), (['v', 'w'], 2))
        self.assertEqual(space.history(), (4, 0))

    def test_changed_answers(self):
        space = filled()
        first = space.regime_of('v')
        kept = copy.deepcopy(first)
        first[0].clear()
        first[1].append((1, 1))
        other = space.clone()
        self.assertEqual(space.regime_of('v'), kept)
        space.regime_of('v')[0].clear()
        self.assertEqual(other.regime_of('v'), kept)
        self.assertEqual(space.computations(), 1)

    def test_what_a_step_drops(self):
        space = filled()
        for name in ('w', 'v'):
            space.regime_of(name)
        space.apply(('advance', 'r', 1))
        space.apply(('system', 'x', STEP))
        self.assertEqual(space.cached(), ['v', 'w'])
        space.regime_of('x')
        space.apply(('set', 'v', 'c', B))
        self.assertEqual(space.cached(), ['w', 'x'])
        space.regime_of('v')
        self.assertEqual((space.cached(), space.computations()), (['v', 'w', 'x'], 4))
        space.undo()
        self.assertEqual(space.cached(), ['w', 'x'])
        self.assertEqual(space.regime_of('v'), find_regime(EventSystem(PAIR)))
        space.redo()
        self.assertEqual((space.cached(), space.computations()), (['w', 'x'], 5))
        space.apply(('remove', 'x'))
        self.assertEqual(space.cached(), ['w'])
        space.undo()
        self.assertEqual(space.cached(), ['w'])

    def test_an_equal_term_keeps_the_regime(self):
        space = filled()
        space.regime_of('v')
        space.apply(('set', 'v', 'c', PAIR[1][1]))
        self.assertEqual((space.cached(), space.history()), (['v'], (5, 0)))

    def test_replaced_in_one_batch(self):
        for rows, cached in ((STEP, ['w']), (list(STEP), ['w']), ((('a', A),), []), ((('b', B),), [])):
            space = Workspace()
            space.apply(('system', 'w', STEP))
            wanted = space.regime_of('w')
            other = space.clone()
            for one in (space, other):
                one.apply_all([('remove', 'w'), ('system', 'w', rows)])
                self.assertEqual((one.cached(), one.computations()), (cached, 1))
                one.undo()
                self.assertEqual((one.cached(), one.computations()), (cached, 1))
                self.assertEqual(one.regime_of('w'), wanted)
                one.redo()
                self.assertEqual(one.cached(), cached)
                self.assertEqual(one.regime_of('w'), find_regime(EventSystem(rows)))
                self.assertEqual(one.computations(), 1 if cached else 3)

    def test_replaced_in_two_steps(self):
        space = Workspace()
        space.apply(('system', 'w', STEP))
        space.regime_of('w')
        space.apply(('remove', 'w'))
        self.assertEqual(space.cached(), [])
        space.apply(('system', 'w', STEP))
        self.assertEqual((space.cached(), space.computations()), ([], 1))

    def test_failing_batches_keep_the_regimes(self):
        space = Workspace()
        space.apply_all([('system', 'w', STEP), ('system', 'v', PAIR)])
        for name in ('v', 'w'):
            space.regime_of(name)
        space.apply_all([])
        space.undo()
        before = picture(space)
        for batch, error, value in (
            ([('remove', 'w'), ('stop', 'x')], UnknownRun, 'x'),
            ([('set', 'w', 'a', A), ('set', 'w', 'x', ('event', 'y'))], UnknownEvent, 'x'),
            ([('remove', 'v'), ('system', 'v', STEP), ('system', 'v', STEP)], DuplicateName, 'v'),
            ([('set', 'v', 'b', ('max', ('event', 'y'), ('event', 'x')))], UnknownEvent, 'y'),
        ):
            self.refused(lambda: space.apply_all(batch), error, value)
            self.assertEqual(picture(space), before)
            for name in ('v', 'w'):
                self.assertEqual(space.regime_of(name), find_regime(space.system(name)))
            self.assertEqual(space.computations(), 2)

    def test_clones_have_their_own_cache(self):
        space = filled()
        space.regime_of('w')
        other = space.clone()
        other.regime_of('v')
        self.assertEqual((space.cached(), other.cached()), (['w'], ['v', 'w']))
        self.assertEqual((space.computations(), other.computations()), (1, 2))
        space.regime_of('v')
        self.assertEqual(space.computations(), 2)


class ModelTest(Case):
    """Random commands, compared with the model after each of them."""

    def system_name(self, source):
        return source.random.choice(('u', 'v', 'w', 'x', 'y', 'z', 't', 's', 'max'))

    def times(self, source, space, system):
        """Times for a run, mostly as many as the system has events."""
        known = system in space.names() and source.random.random() < 0.9
        many = len(space.system(system)) if known else source.random.randint(0, 3)
        return [source.short_pair() for _ in range(many)]

    def term(self, source):
        return source.random.choice((A, B, ('event', 'c'), ('delay', A, (1, 2)), ('max', B, A), (), ('max',), ('min', B, B)))

    def rows(self, source):
        many = source.random.choice((1, 1, 2, 2, 3, 0))
        return [(source.random.choice(('a', 'b', 'c', 'd', 'mix')), self.term(source)) for _ in range(many)]

    def good_rows(self, source):
        names = source.random.choice(('a', 'b', 'ab', 'abc', 'cd', 'abcd'))
        return [(name, ('delay', ('event', source.random.choice(names)), source.short_pair())) for name in names]

    def command(self, source, space):
        kind = source.random.choice(('system', 'system', 'remove', 'set', 'set', 'merge', 'start', 'start', 'advance', 'shift', 'stop'))
        name, other = self.system_name(source), self.system_name(source)
        event = source.random.choice('abcx')
        rest = {
            'system': lambda: (source.random.choice((self.rows, self.good_rows, self.good_rows))(source),),
            'remove': lambda: (),
            'set': lambda: (event, self.term(source)),
            'merge': lambda: (other, self.system_name(source)),
            'start': lambda: (other, self.times(source, space, other)),
            'advance': lambda: (source.random.choice((0, 1, 2, 100, 101, -1)),),
            'shift': lambda: (event, source.short_pair()),
            'stop': lambda: (),
        }[kind]()
        command = (kind, name, *rest)
        if source.random.random() < 0.03:
            return source.random.choice(((), command[:-1], (*command, 1), ('other', name)))
        return command

    def both(self, space, model, call, same):
        """The same call of both; returns the error that is due, or None."""
        try:
            same(model)
        except Refused as refusal:
            error, value = refusal.args[0]
            self.refused(lambda: call(space), error, value)
            return error
        self.assertIsNone(call(space))
        return None

    def step(self, source, space, model):
        choice = source.random.random()
        if choice < 0.1:
            return self.both(space, model, lambda one: one.undo(), lambda one: one.move(-1))
        if choice < 0.17:
            return self.both(space, model, lambda one: one.redo(), lambda one: one.move(1))
        if choice < 0.3:
            name = self.system_name(source)
            return self.both(space, model, lambda one: self.ask(one, name), lambda one: one.ask(name))
        many = 1 if choice < 0.8 else source.random.randint(0, 3)
        commands = [self.command(source, space) for _ in range(many)]
        if many == 1:
            return self.both(space, model, lambda one: one.apply(commands[0]), lambda one: one.apply_all(commands))
        return self.both(space, model, lambda one: one.apply_all(commands), lambda one: one.apply_all(commands))

    def ask(self, space, name):
        self.assertEqual(space.regime_of(name), find_regime(space.system(name)))

    def test_random_commands(self):
        seen = {}
        for seed in range(150):
            source, space, model = Source(1000 + seed), Workspace(), SpaceModel()
            for _ in range(200):
                error = self.step(source, space, model)
                seen[error] = seen.get(error, 0) + 1
                self.assertEqual(picture(space), picture_of_model(model))
                if source.random.random() < 0.05:
                    space = space.clone()
        for error in (None, *ERRORS):
            self.assertGreater(seen.get(error, 0), 5, error)


class TogetherTest(Case):
    """Systems, runs and regimes in one workspace."""

    def test_union_in_a_workspace(self):
        source = Source(120)
        for at in range(20):
            left = source.rows(1 + at % 3, 3)
            right = [('x' + name, self.moved(term)) for name, term in source.rows(1 + at // 7, 3)]
            space = Workspace()
            space.apply_all([('system', 'l', left), ('system', 'r', right), ('merge', 'b', 'l', 'r')])
            self.assertEqual(space.regime_of('b')[1], rates_of(EventSystem(left)) + rates_of(EventSystem(right)))
            times = [[source.short_pair() for _ in rows] for rows in (left, right)]
            space.apply_all([
                ('start', 'l', 'l', times[0]), ('start', 'r', 'r', times[1]), ('start', 'b', 'b', times[0] + times[1])])
            for rounds in (1, 3, 20):
                space.apply_all([('advance', name, rounds) for name in 'lrb'])
                self.assertEqual(space.run_state('b')[1], space.run_state('l')[1] + space.run_state('r')[1])
            run = Run(space.system('b'), times[0] + times[1])
            run.advance(rounds=24)
            self.assertEqual(run.times(), space.run_state('b')[1])
            low, high = run.deviation(), run.deviation_bound()
            self.assertLessEqual(low[0] * high[1], high[0] * low[1])

    def moved(self, term):
        if term[0] == 'event':
            return ('event', 'x' + term[1])
        if term[0] == 'delay':
            return ('delay', self.moved(term[1]), term[2])
        if term[0] == 'mix':
            return ('mix', *[(weight, self.moved(part)) for weight, part in term[1:]])
        return (term[0], *[self.moved(part) for part in term[1:]])

    def test_parsed_terms(self):
        space = Workspace()
        space.apply(('system', 'w', system_of('max(a + 3, b)', 'a + 1/2').rows()))
        space.apply(('set', 'w', 'b', parse_term('a + 7')))
        self.assertEqual(space.regime_of('w')[1], [(7, 2), (7, 2)])


if __name__ == "__main__":
    unittest.main()
