import copy
import itertools
import unittest
from fractions import Fraction

from support import NAMES, Source, as_fraction, chain, is_canonical, pair_of, plain_value, wide

from gaithold.errors import UnknownEvent
from gaithold.terms import (
    MAX_DEPTH, MAX_SIZE, evaluate, event_names, is_valid_name, is_valid_term, term_depth, term_size,
)

A = ('event', 'a')
B = ('event', 'b')


class NameTest(unittest.TestCase):
    def test_example(self):
        self.assertEqual([is_valid_name('abc'), is_valid_name('max'), is_valid_name('abcdefg')], [True, False, False])

    def test_lengths(self):
        for many in range(9):
            for letter in 'amz':
                self.assertIs(is_valid_name(letter * many), 1 <= many <= 6)
        self.assertIs(is_valid_name(thing='abcdef'), True)

    def test_every_letter(self):
        for code in range(256):
            inside = ord('a') <= code <= ord('z')
            for text in (chr(code), 'ab' + chr(code), chr(code) + 'yz'):
                self.assertIs(is_valid_name(text), inside, text)

    def test_keywords(self):
        for word in ('max', 'min', 'median', 'mix'):
            self.assertIs(is_valid_name(word), False)

    def test_close_to_keywords(self):
        for word in ('maxi', 'amax', 'ma', 'mx', 'mini', 'mi', 'media', 'edian', 'mixa', 'xmix', 'event', 'delay', 'xam'):
            self.assertIs(is_valid_name(word), True, word)
        for word in ('Max', 'MAX', 'medians', 'max ', ' min', 'mi n', 'min\n', 'a1', 'a_b', ''):
            self.assertIs(is_valid_name(word), False, word)


class ValidTermTest(unittest.TestCase):
    def check(self, thing, wanted):
        with self.subTest(thing):
            self.assertIs(is_valid_term(thing), wanted)

    def check_all(self, things, wanted):
        for thing in things:
            self.check(thing, wanted)

    def test_example(self):
        self.assertEqual(
            [is_valid_term(('max', ('event', 'a'))), is_valid_term(('mix', ((1, 2), ('event', 'a'))))], [True, False])
        self.assertIs(is_valid_term(thing=A), True)

    def test_limits(self):
        self.assertEqual((MAX_SIZE, MAX_DEPTH), (40, 10))

    def test_events(self):
        self.check_all([A, ('event', 'abcdef'), ('event', 'event'), ('event', 'delay')], True)
        self.check_all([
            ('event',), ('event', 'a', 'b'), ('event', 'max'), ('event', ''), ('event', 'abcdefg'), ('event', 'A'),
            ('event', 1), ('event', True), ('event', ()), ('event', ('a',)), ('event', A), ('Event', 'a'),
        ], False)

    def test_delays(self):
        top = 10 ** 12 - 1
        self.check_all([('delay', A, one) for one in (
            (0, 1), (1, 1), (-1, 1), (-3, 2), (top, 1), (-top, 1), (1, top), (-top, top - 1))], True)
        self.check_all([('delay', A, one) for one in (
            (0, 2), (2, 4), (1, 0), (0, 0), (1, -1), (-1, -2), (0, -1), (top + 1, 1), (-top - 1, 1), (1, top + 1),
            (10 ** 40, 1), (1, 10 ** 40), (), (1,), (1, 1, 1), ('1', 1), (1, '1'), ((1, 1), 1), (1, ()), 1, 0, '1',
            True, A)], False)
        self.check_all([('delay',), ('delay', A), ('delay', (1, 1)), ('delay', (1, 1), A), ('delay', A, (1, 1), (1, 1)),
                        ('delay', 'a', (1, 1)), ('delay', 1, (1, 1)), ('delay', (), (1, 1))], False)

    def test_booleans_are_not_numbers(self):
        self.check_all([
            ('delay', A, (True, 1)), ('delay', A, (1, True)), ('delay', A, (False, 1)), ('delay', A, (False, True)),
            ('mix', ((True, 1), A)), ('mix', ((1, True), A)), ('mix', (True, A)), (True, A), True, False,
            ('max', ('delay', A, (True, 1)), B),
        ], False)

    def test_operands(self):
        for many in range(9):
            for kind in ('max', 'min'):
                self.check((kind, *[A] * many), 1 <= many <= 6)
            self.check(('median', *[A] * many), many == 3)
            weights = [(1, many)] * many
            self.check(('mix', *[(weight, A) for weight in weights]), 1 <= many <= 6)

    def test_wrong_operands(self):
        for kind, wrong in itertools.product(('max', 'min', 'median'), ('a', 1, (), ('a',), (1, 1), True, ((1, 1), A))):
            for at in range(3):
                parts = [A, A, A]
                parts[at] = wrong
                self.check((kind, *parts), False)

    def test_weights(self):
        top = 10 ** 12 - 1
        self.check_all([
            ('mix', ((1, 1), A)), ('mix', ((1, 3), A), ((2, 3), B)), ('mix', ((1, 2), A), ((1, 3), A), ((1, 6), A)),
            ('mix', ((1, top), A), ((top - 1, top), B)),
        ], True)
        self.check_all([
            ('mix',), ('mix', (1, 1), A), ('mix', A), ('mix', ((1, 1),)), ('mix', ((1, 1), A, A)), ('mix', (A, (1, 1))),
            ('mix', ((2, 1), A), ((-1, 1), B)), ('mix', ((1, 1), A), ((0, 1), B)), ('mix', ((1, 2), A), ((1, 3), B)),
            ('mix', ((1, 2), A), ((2, 3), B)), ('mix', ((2, 4), A), ((1, 2), B)), ('mix', ((-1, -1), A)),
            ('mix', ((1, 1), 'a')), ('mix', ((1, 1), ())), ('mix', ()), ('mix', 1), ('mix', ((2, 2), A)), ('mix', (1, A)),
            ('mix', ((1, top + 1), A), ((top, top + 1), B)), ('mix', ((0, 1), A)),
        ], False)

    def test_other_tuples(self):
        self.check_all([
            (), ((),), ('',), (1,), ('a',), (A,), (A, A), ((), A), ('avg', A), ('MAX', A), ('median ', A, A, A), (1, A),
            (('max',), A), ('max', A, ('avg', A)), ('max', A, ()),
        ], False)

    def test_size(self):
        for size in range(13, 44):
            self.assertEqual(term_size(wide(size)), size)
            self.check(wide(size), size <= 40)

    def test_size_with_delays_and_weights(self):
        mixed = ('mix', ((1, 2), wide(20)), ((1, 2), wide(18)))
        self.assertEqual(term_size(mixed), 39)
        self.check(mixed, True)
        self.check(('delay', mixed, (1, 1)), True)
        self.check(('delay', ('delay', mixed, (1, 1)), (1, 1)), False)

    def test_depth(self):
        for depth in range(1, 30):
            self.assertEqual(term_depth(chain(depth)), depth)
            self.check(chain(depth), depth <= 10)
        self.check(('max', A, chain(9)), True)
        self.check(('max', A, chain(10)), False)
        self.check(('mix', ((1, 2), A), ((1, 2), chain(10))), False)

    def test_deep_and_wide_tuples_raise_nothing(self):
        bare, maximum, median, weighted = (), A, A, A
        for _ in range(29):
            bare = (bare, bare, bare)
            maximum = ('max', *[maximum] * 6)
            median = ('median', median, median, median)
            weighted = ('mix', *[((1, 6), weighted)] * 6)
        for thing in (bare, maximum, median, weighted, ('max', bare), ('event', bare), ('delay', A, bare),
                      ('delay', bare, (1, 1)), ('mix', bare), ('mix', (bare, A)), ('max', *[A] * 59), (bare,) * 60):
            self.assertIs(is_valid_term(thing), False)

    def test_an_error_at_any_place(self):
        source = Source(5)
        for _ in range(100):
            term = source.term(4)
            self.check(term, term_size(term) <= 40)
            for broken in broken_copies(term):
                self.check(broken, False)


def broken_copies(term):
    """The term with each event reference in turn replaced by something else."""
    if term[0] == 'event':
        return [('event', 'min')]
    copies = []
    for at in range(1, len(term)):
        part = term[at]
        if isinstance(part[0], str):
            copies.extend([(*term[:at], broken, *term[at + 1:]) for broken in broken_copies(part)])
        elif term[0] == 'mix':
            pairs = [(part[0], broken) for broken in broken_copies(part[1])]
            copies.extend([(*term[:at], pair, *term[at + 1:]) for pair in pairs])
    return copies


class MeasureTest(unittest.TestCase):
    def test_example(self):
        term = ('max', ('event', 'b'), ('delay', ('event', 'a'), (1, 1)), ('event', 'b'))
        self.assertEqual([term_size(term), term_depth(term), event_names(term)], [5, 3, ['b', 'a']])
        self.assertEqual([term_size(term=term), term_depth(term=term), event_names(term=term)], [5, 3, ['b', 'a']])

    def test_each_kind(self):
        for term, size, depth, names in (
            (A, 1, 1, ['a']),
            (('delay', A, (0, 1)), 2, 2, ['a']),
            (('max', B), 2, 2, ['b']),
            (('min', B, A), 3, 2, ['b', 'a']),
            (('median', B, ('max', A, B), ('event', 'max')), 6, 3, ['b', 'a', 'max']),
            (('mix', ((1, 2), ('delay', B, (1, 2))), ((1, 2), A)), 4, 3, ['b', 'a']),
        ):
            self.assertEqual([term_size(term), term_depth(term), event_names(term)], [size, depth, names])

    def test_first_occurrence_counts(self):
        deep = ('max', ('min', ('delay', ('event', 'c'), (1, 1)), A), B, ('mix', ((1, 1), ('event', 'c'))), ('event', 'd'))
        self.assertEqual(event_names(deep), ['c', 'a', 'b', 'd'])

    def test_beyond_the_limits(self):
        self.assertEqual([term_size(chain(30)), term_depth(chain(30))], [30, 30])
        self.assertEqual(term_size(('max', *[wide(40)] * 6)), 241)

    def test_returned_list_is_new(self):
        term = ('max', A, B)
        for one in (A, term):
            first = event_names(one)
            wanted = list(first)
            first.append('z')
            self.assertEqual(event_names(one), wanted)
        self.assertEqual(term, ('max', A, B))


class EvaluateTest(unittest.TestCase):
    def check_missing(self, term, table, name):
        with self.assertRaises(UnknownEvent) as caught:
            evaluate(term, table)
        self.assertEqual(caught.exception.name, name)
        self.assertEqual(caught.exception.tag, 'UnknownEvent')

    def test_examples(self):
        term = ('max', ('delay', ('event', 'a'), (3, 1)), ('event', 'b'))
        self.assertEqual(evaluate(term, {'a': (1, 1), 'b': (5, 1)}), (5, 1))
        self.check_missing(('event', 'c'), {'a': (1, 1)}, 'c')

    def test_keywords(self):
        self.assertEqual(evaluate(table={'a': (1, 2)}, term=A), (1, 2))

    def test_each_kind(self):
        table = {'a': (1, 2), 'b': (-1, 3), 'c': (5, 1), 'unused': (9, 1)}
        c = ('event', 'c')
        for term, wanted in (
            (A, (1, 2)),
            (('delay', A, (-1, 2)), (0, 1)),
            (('delay', B, (1, 1)), (2, 3)),
            (('max', A, B, c), (5, 1)),
            (('max', B), (-1, 3)),
            (('min', A, B, c), (-1, 3)),
            (('mix', ((1, 4), A), ((3, 4), B)), (-1, 8)),
            (('mix', ((1, 1), c)), (5, 1)),
        ):
            self.assertEqual(evaluate(term, table), wanted)

    def test_median_in_every_order(self):
        table = {'a': (1, 2), 'b': (-1, 3), 'c': (5, 1), 'd': (1, 2)}
        for names in itertools.permutations('abc'):
            self.assertEqual(evaluate(('median', *[('event', name) for name in names]), table), (1, 2))
        for third, wanted in (('b', (1, 2)), ('c', (1, 2)), ('a', (1, 2))):
            for names in itertools.permutations(('a', 'd', third)):
                self.assertEqual(evaluate(('median', *[('event', name) for name in names]), table), wanted)

    def test_first_missing_name(self):
        term = ('max', ('min', ('event', 'c'), B), ('delay', A, (1, 1)), ('event', 'd'))
        self.check_missing(term, {}, 'c')
        self.check_missing(term, {'c': (1, 1)}, 'b')
        self.check_missing(term, {'c': (1, 1), 'b': (1, 1), 'd': (1, 1)}, 'a')
        self.check_missing(term, {'a': (1, 1), 'b': (1, 1), 'c': (1, 1)}, 'd')

    def test_against_python(self):
        source = Source(6)
        for _ in range(300):
            term, table = source.term(5), source.table()
            kept = copy.deepcopy((term, table))
            value = evaluate(term, table)
            self.assertTrue(is_canonical(value))
            self.assertEqual(value, pair_of(plain_value(term, table)))
            self.assertEqual((term, table), kept)

    def test_long_times(self):
        big = 10 ** 300
        table = {'a': (big, 7), 'b': (big + 1, 7)}
        self.assertEqual(evaluate(('max', A, B), table), pair_of(Fraction(big + 1, 7)))
        self.assertEqual(evaluate(('min', A, B), table), (big, 7))

    def test_beyond_the_limits(self):
        self.assertEqual(evaluate(chain(30), {'a': (1, 1)}), (30, 1))


class RoundTest(unittest.TestCase):
    """What [6] says of every round, along evaluate."""

    def setUp(self):
        source = Source(7)
        self.cases = [(source.term(5), source.table(), source.table()) for _ in range(300)]

    def value(self, term, table):
        return as_fraction(evaluate(term, table))

    def test_nonexpansive(self):
        for term, one, other in self.cases:
            gap = max(abs(as_fraction(one[name]) - as_fraction(other[name])) for name in NAMES)
            self.assertLessEqual(abs(self.value(term, one) - self.value(term, other)), gap)

    def test_monotone(self):
        for term, one, other in self.cases:
            later = {name: max(one[name], other[name], key=as_fraction) for name in NAMES}
            self.assertLessEqual(self.value(term, one), self.value(term, later))

    def test_commutes_with_a_constant(self):
        for term, one, other in self.cases:
            step = as_fraction(other['a'])
            moved = {name: pair_of(as_fraction(one[name]) + step) for name in NAMES}
            self.assertEqual(self.value(term, moved), self.value(term, one) + step)


if __name__ == "__main__":
    unittest.main()
