import copy
import unittest

from samples import random_systems
from support import NAMES, as_fraction, is_canonical, pair_of, plain_rounds, plain_text

from gaithold.errors import (
    DuplicateName, InvalidCount, InvalidName, InvalidRound, InvalidTerm, InvalidTimes, UnknownEvent,
)
from gaithold.systems import MAX_EVENTS, MAX_ROUNDS, EventSystem

A = ('event', 'a')
B = ('event', 'b')
C = ('event', 'c')
ROWS = (
    ('a', ('max', ('delay', A, (3, 1)), B)),
    ('b', ('delay', A, (1, 2))),
)
BAD = ('max',)


class SystemTest(unittest.TestCase):
    def test_limits(self):
        self.assertEqual((MAX_EVENTS, MAX_ROUNDS), (6, 100))

    def test_examples(self):
        a = ('max', ('delay', ('event', 'a'), (3, 1)), ('event', 'b'))
        b = ('delay', ('event', 'a'), (1, 2))
        system = EventSystem([('a', a), ('b', b)])
        self.assertEqual(
            [str(system), system.simulate([(0, 1), (0, 1)], rounds=2)],
            ['a: max(a + 3, b)\nb: a + 1/2\n', [(6, 1), (7, 2)]])
        with self.assertRaises(UnknownEvent) as caught:
            EventSystem([('a', ('event', 'b'))])
        self.assertEqual(caught.exception.name, 'b')

    def test_methods_stand_in_the_class(self):
        for name in ('rows', 'names', 'terms', 'term', 'simulate', '__len__', '__eq__', '__str__', '__repr__'):
            self.assertIn(name, vars(EventSystem))

    def test_queries(self):
        rows = [('c', A), ('a', ('max', B, C)), ('b', ('delay', B, (1, 1)))]
        for given in (rows, tuple(rows)):
            for system in (EventSystem(given), EventSystem(rows=given)):
                self.assertEqual(system.rows(), rows)
                self.assertEqual(system.names(), ['c', 'a', 'b'])
                self.assertEqual(system.terms(), [term for _, term in rows])
                for name, term in rows:
                    self.assertEqual(system.term(name), term)
                    self.assertEqual(system.term(name=name), term)
                self.assertTrue(all(isinstance(row, tuple) for row in system.rows()))

    def test_unknown_event(self):
        system = EventSystem(ROWS)
        for name in ('c', 'ab', 'max', '', 'A'):
            with self.assertRaises(UnknownEvent) as caught:
                system.term(name)
            self.assertEqual(caught.exception.name, name)

    def test_length_and_texts(self):
        for many in range(1, 7):
            rows = [(name, ('delay', A, (-1, many + 1))) for name in NAMES[:many]]
            system = EventSystem(rows)
            self.assertEqual(len(system), many)
            self.assertEqual(repr(system), f'EventSystem({many} events)')
            self.assertEqual(str(system), ''.join(f'{name}: a - 1/{many + 1}\n' for name in NAMES[:many]))

    def test_text_of_random_systems(self):
        for _, system in random_systems(20, 60):
            self.assertEqual(str(system), ''.join(f'{name}: {plain_text(term)}\n' for name, term in system.rows()))

    def test_equality(self):
        system = EventSystem(ROWS)
        self.assertTrue(system == EventSystem(list(ROWS)))
        self.assertFalse(system != EventSystem(list(ROWS)))
        for rows in (ROWS[::-1], [('a', A), ('b', B)], [ROWS[0], ('b', ('delay', A, (1, 3)))], [('a', A)], [*ROWS, ('c', C)]):
            self.assertFalse(system == EventSystem(rows))
            self.assertTrue(system != EventSystem(rows))

    def test_other_kinds_are_not_equal(self):
        system = EventSystem(ROWS)
        for thing in (ROWS, list(ROWS), system.rows(), str(system), repr(system), 2, None, True, {}, (), object()):
            self.assertFalse(system == thing)
            self.assertTrue(system != thing)
            self.assertFalse(thing == system)

    def test_changed_arguments_do_not_matter(self):
        rows = list(ROWS)
        system = EventSystem(rows)
        rows.append(('c', C))
        rows[0] = ('z', A)
        self.assertEqual(system.rows(), list(ROWS))
        self.assertEqual(len(system), 2)

    def test_returned_lists_are_new(self):
        system = EventSystem(ROWS)
        for query in (system.rows, system.names, system.terms):
            first = query()
            kept = list(first)
            first.clear()
            self.assertEqual(query(), kept)
        self.assertEqual(system, EventSystem(ROWS))

    def test_arguments_do_not_change(self):
        for given in (list(ROWS), [('a', BAD)], [('a', C)], [('a', A), ('a', A)], [('A', A)], [], [('a', A)] * 7):
            kept = copy.deepcopy(given)
            try:
                EventSystem(given)
            except (InvalidCount, InvalidName, InvalidTerm, DuplicateName, UnknownEvent):
                pass
            self.assertEqual(given, kept)


class WrongRowsTest(unittest.TestCase):
    def check(self, rows, error, field, value):
        for given in (rows, tuple(rows)):
            with self.subTest(given), self.assertRaises(error) as caught:
                EventSystem(given)
            self.assertEqual(getattr(caught.exception, field), value)

    def test_count(self):
        self.check([], InvalidCount, 'quantity', 0)
        for many in (7, 8, 60):
            self.check([('a', A)] * many, InvalidCount, 'quantity', many)
            self.check([('MAX', BAD)] * many, InvalidCount, 'quantity', many)

    def test_names(self):
        for name in ('', 'max', 'min', 'median', 'mix', 'abcdefg', 'A', 'a b', 'a1', 'a\n'):
            self.check([(name, A)], InvalidName, 'name', name)
            self.check([('a', BAD), ('b', C), (name, A)], InvalidName, 'name', name)

    def test_duplicates(self):
        self.check([('a', A), ('a', A)], DuplicateName, 'name', 'a')
        self.check([('a', BAD), ('b', BAD), ('c', C), ('b', B)], DuplicateName, 'name', 'b')
        self.check([('a', A), ('b', A), ('b', A), ('a', A)], DuplicateName, 'name', 'b')

    def test_names_row_by_row(self):
        self.check([('a', A), ('a', A), ('max', A)], DuplicateName, 'name', 'a')
        self.check([('a', A), ('max', A), ('a', A)], InvalidName, 'name', 'max')
        self.check([('max', A), ('max', A)], InvalidName, 'name', 'max')
        self.check([('', A), ('max', A)], InvalidName, 'name', '')

    def test_terms(self):
        wrong = (
            (), ('max',), ('event', 'max'), ('delay', A, (2, 4)), ('delay', A, (True, 1)), ('mix', ((1, 2), A)),
            ('median', A, A), ('max', *[A] * 7), ('delay', A, (10 ** 12, 1)), ('avg', A), ('event', 'A'),
        )
        for term in wrong:
            self.check([('a', term)], InvalidTerm, 'name', 'a')
            self.check([('a', A), ('b', term), ('c', BAD)], InvalidTerm, 'name', 'b')
            self.check([('a', ('event', 'z')), ('b', term)], InvalidTerm, 'name', 'b')

    def test_limits_of_terms(self):
        chain = A
        for _ in range(9):
            chain = ('delay', chain, (1, 1))
        self.assertEqual(EventSystem([('a', chain)]).term('a'), chain)
        self.check([('a', ('delay', chain, (1, 1)))], InvalidTerm, 'name', 'a')

    def test_unknown_names(self):
        self.check([('a', ('max', B, C))], UnknownEvent, 'name', 'b')
        self.check([('a', ('max', A, C, B))], UnknownEvent, 'name', 'c')
        self.check([('a', ('max', A, B)), ('b', ('min', ('delay', C, (1, 1)), ('event', 'd')))], UnknownEvent, 'name', 'c')
        self.check([('b', ('event', 'd')), ('a', C)], UnknownEvent, 'name', 'd')
        self.check([('a', ('mix', ((1, 2), A), ((1, 2), ('event', 'z'))))], UnknownEvent, 'name', 'z')

    def test_names_of_later_rows_are_known(self):
        self.assertEqual(EventSystem([('a', B), ('b', C), ('c', A)]).names(), ['a', 'b', 'c'])


class SimulateTest(unittest.TestCase):
    def test_default_is_one_round(self):
        system = EventSystem(ROWS)
        self.assertEqual(system.simulate([(0, 1), (0, 1)]), [(3, 1), (1, 2)])
        self.assertEqual(system.simulate(times=((0, 1), (9, 1)), rounds=1), [(9, 1), (1, 2)])

    def test_rounds_are_keyword_only(self):
        with self.assertRaises(TypeError):
            EventSystem(ROWS).simulate([(0, 1), (0, 1)], 2)

    def test_no_round(self):
        system = EventSystem(ROWS)
        for times in ([(5, 3), (-1, 2)], ((5, 3), (-1, 2))):
            result = system.simulate(times, rounds=0)
            self.assertEqual(result, [(5, 3), (-1, 2)])
            self.assertIsInstance(result, list)
            self.assertIsNot(result, times)

    def test_all_events_step_together(self):
        system = EventSystem([('a', B), ('b', A)])
        self.assertEqual(system.simulate([(1, 1), (2, 1)]), [(2, 1), (1, 1)])
        self.assertEqual(system.simulate([(1, 1), (2, 1)], rounds=100), [(1, 1), (2, 1)])

    def test_times_are_in_the_order_of_the_rows(self):
        system = EventSystem([('c', ('delay', A, (1, 1))), ('a', ('delay', C, (1, 3)))])
        self.assertEqual(system.simulate([(10, 1), (20, 1)]), [(21, 1), (31, 3)])

    def test_against_python(self):
        for source, system in random_systems(21, 120):
            times = [source.short_pair() for _ in range(len(system))]
            for rounds in (0, 1, 2, 7):
                result = system.simulate(times, rounds=rounds)
                self.assertTrue(all(is_canonical(one) for one in result))
                self.assertEqual(result, plain_rounds(system.rows(), times, rounds))

    def test_each_median_and_tie(self):
        system = EventSystem([('a', ('median', A, B, C)), ('b', ('max', A, B, C)), ('c', ('min', A, B, C))])
        for times in ([(1, 1), (2, 1), (3, 1)], [(3, 1), (1, 1), (2, 1)], [(2, 1), (3, 1), (1, 1)]):
            self.assertEqual(system.simulate(times), [(2, 1), (3, 1), (1, 1)])
        self.assertEqual(system.simulate([(1, 2), (1, 2), (1, 3)]), [(1, 2), (1, 2), (1, 3)])

    def test_hundred_rounds(self):
        for source, system in random_systems(22, 24):
            times = [source.pair() for _ in range(len(system))]
            self.assertEqual(system.simulate(times, rounds=100), plain_rounds(system.rows(), times, 100))
            half = system.simulate(times, rounds=50)
            self.assertEqual(system.simulate(half, rounds=50), system.simulate(times, rounds=100))

    def test_nested_weights(self):
        inner = ('mix', ((2, 3), ('delay', A, (1, 7))), ((1, 3), B))
        rows = [
            ('a', ('mix', ((1, 2), inner), ((1, 6), ('max', inner, A)), ((1, 3), ('delay', B, (-1, 5))))),
            ('b', ('max', ('delay', inner, (1, 11)), ('mix', ((1, 5), A), ((4, 5), B)))),
        ]
        times = [(1, 13), (-2, 17)]
        for rounds in range(12):
            self.assertEqual(EventSystem(rows).simulate(times, rounds=rounds), plain_rounds(rows, times, rounds))

    def test_long_weights_over_hundred_rounds(self):
        top = 10 ** 12 - 1
        rows = [
            (name, ('mix', ((1, top - at), ('event', NAMES[at - 1])), ((top - at - 1, top - at), ('delay', A, (1, top)))))
            for at, name in enumerate(NAMES)]
        times = [(at, 7) if at % 7 else (0, 1) for at in range(6)]
        self.assertEqual(EventSystem(rows).simulate(times, rounds=100), plain_rounds(rows, times, 100))

    def test_arguments_do_not_change(self):
        system = EventSystem(ROWS)
        times = [(1, 2), (3, 1)]
        for rounds in (0, 1, 100):
            first = system.simulate(times, rounds=rounds)
            self.assertEqual(times, [(1, 2), (3, 1)])
            kept = list(first)
            first.clear()
            self.assertEqual(system.simulate(times, rounds=rounds), kept)
        self.assertEqual(system, EventSystem(ROWS))

    def test_wrong_number_of_times(self):
        system = EventSystem(ROWS)
        for many in (0, 1, 3, 7):
            for rounds in (0, 1, -1, 101):
                with self.assertRaises(InvalidTimes):
                    system.simulate([(0, 1)] * many, rounds=rounds)

    def test_wrong_number_of_rounds(self):
        system = EventSystem(ROWS)
        for rounds in (-1, 101, -100, 10 ** 30 - 1, -10 ** 29):
            with self.assertRaises(InvalidRound) as caught:
                system.simulate([(0, 1), (0, 1)], rounds=rounds)
            self.assertEqual(caught.exception.number, rounds)


class RoundsTest(unittest.TestCase):
    """What [6] says of every round, along simulate."""

    def setUp(self):
        self.cases = []
        for source, system in random_systems(23, 90):
            one, other = ([source.short_pair() for _ in range(len(system))] for _ in range(2))
            self.cases.append((system, one, other))

    def values(self, times):
        return [as_fraction(one) for one in times]

    def gap(self, one, other):
        return max(abs(left - right) for left, right in zip(self.values(one), self.values(other)))

    def test_distance_never_grows(self):
        for system, one, other in self.cases:
            for _ in range(8):
                after, other_after = system.simulate(one), system.simulate(other)
                self.assertLessEqual(self.gap(after, other_after), self.gap(one, other))
                one, other = after, other_after

    def test_later_starts_are_never_earlier(self):
        for system, one, other in self.cases:
            later = [max(pair, key=as_fraction) for pair in zip(one, other)]
            for rounds in (1, 2, 8):
                pairs = zip(self.values(system.simulate(one, rounds=rounds)), self.values(system.simulate(later, rounds=rounds)))
                self.assertTrue(all(early <= late for early, late in pairs))

    def test_a_constant_stays(self):
        for system, one, other in self.cases:
            moved = [pair_of(value + as_fraction(other[0])) for value in self.values(one)]
            for rounds in (1, 5):
                wanted = [value + as_fraction(other[0]) for value in self.values(system.simulate(one, rounds=rounds))]
                self.assertEqual(self.values(system.simulate(moved, rounds=rounds)), wanted)


if __name__ == "__main__":
    unittest.main()
