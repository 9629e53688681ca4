import copy
import itertools
import unittest
from fractions import Fraction

from support import NAMES, Source, as_fraction, crossings, is_canonical, pair_of, selectable_lines

from gaithold.errors import UnknownEvent
from gaithold.piecewise import trace
from gaithold.terms import evaluate, is_valid_term

A = ('event', 'a')
B = ('event', 'b')
C = ('event', 'c')
FLAT = ((3, 1), (0, 1))
STEEP = ((0, 1), (1, 1))


def linear_table(source, names=NAMES):
    return {name: (source.short_pair(), source.short_pair()) for name in names}


def value_of_input(table, instant):
    return {name: pair_of(as_fraction(offset) + instant * as_fraction(rate)) for name, (offset, rate) in table.items()}


def value_of_pieces(pieces, instant):
    active = [piece for piece in pieces if as_fraction(piece[0]) <= instant][-1]
    return as_fraction(active[1]) + instant * as_fraction(active[2])


class TraceTest(unittest.TestCase):
    def check_form(self, pieces, since):
        self.assertIsInstance(pieces, list)
        self.assertEqual(pieces[0][0], since)
        for piece in pieces:
            self.assertIsInstance(piece, tuple)
            self.assertEqual(len(piece), 3)
            self.assertTrue(all(is_canonical(one) for one in piece))
        for one, other in zip(pieces, pieces[1:]):
            self.assertLess(as_fraction(one[0]), as_fraction(other[0]))
            self.assertNotEqual(one[1:], other[1:])

    def check_values(self, term, table, pieces, instants):
        for instant in instants:
            wanted = as_fraction(evaluate(term, value_of_input(table, instant)))
            self.assertEqual(value_of_pieces(pieces, instant), wanted, (term, table, instant))

    def check(self, term, table, since=(0, 1)):
        pieces = trace(term, table, since=since)
        self.check_form(pieces, since)
        starts = [as_fraction(piece[0]) for piece in pieces]
        between = [(one + other) / 2 for one, other in zip(starts, starts[1:])]
        near = [start + Fraction(1, 10 ** 9) for start in starts]
        near += [start - (start - before) / 10 ** 6 for before, start in zip(starts, starts[1:])]
        behind = [starts[-1] + step for step in (1, Fraction(22, 7), 1000, 10 ** 12, 10 ** 40)]
        grid = [starts[0] + Fraction(step, 3) for step in range(30)]
        self.check_values(term, table, pieces, starts + between + near + behind + grid)
        return pieces

    def test_example(self):
        term = ('max', ('event', 'a'), ('event', 'b'))
        self.assertEqual(
            trace(term, {'a': ((0, 1), (2, 1)), 'b': ((3, 1), (1, 1))}),
            [((0, 1), (3, 1), (1, 1)), ((3, 1), (0, 1), (2, 1))])

    def test_event_and_delay(self):
        table = {'a': ((1, 2), (-3, 4)), 'b': STEEP}
        self.assertEqual(trace(A, table), [((0, 1), (1, 2), (-3, 4))])
        self.assertEqual(trace(A, table, since=(5, 2)), [((5, 2), (1, 2), (-3, 4))])
        self.assertEqual(trace(('delay', A, (-3, 2)), table), [((0, 1), (-1, 1), (-3, 4))])

    def test_max_and_min(self):
        table = {'a': FLAT, 'b': STEEP}
        flat, steep = ((0, 1), *FLAT), ((0, 1), *STEEP)
        for parts in ((A, B), (B, A), (A, B, A), (B, A, B), (A, A, B, B)):
            self.assertEqual(trace(('max', *parts), table), [flat, ((3, 1), *STEEP)])
            self.assertEqual(trace(('min', *parts), table), [steep, ((3, 1), *FLAT)])
        for kind in ('max', 'min'):
            self.assertEqual(trace((kind, A), table), [flat])

    def test_median_in_every_order(self):
        table = {'a': FLAT, 'b': STEEP, 'c': ((10, 1), (-1, 1))}
        wanted = [
            ((0, 1), *FLAT), ((3, 1), *STEEP), ((5, 1), (10, 1), (-1, 1)), ((7, 1), *FLAT)]
        for parts in itertools.permutations((A, B, C)):
            self.assertEqual(trace(('median', *parts), table), wanted)

    def test_mix(self):
        table = {'a': FLAT, 'b': STEEP}
        term = ('mix', ((1, 3), ('max', A, B)), ((2, 3), B))
        self.assertEqual(trace(term, table), [((0, 1), (1, 1), (2, 3)), ((3, 1), (0, 1), (1, 1))])

    def test_pieces_that_cancel_are_joined(self):
        table = {'a': FLAT, 'b': STEEP}
        term = ('mix', ((1, 2), ('max', A, B)), ((1, 2), ('min', A, B)))
        self.assertEqual(trace(term, table), [((0, 1), (3, 2), (1, 2))])
        self.assertEqual(trace(('max', ('min', A, B), ('max', A, B), A, B), table), trace(('max', A, B), table))
        self.assertEqual(trace(('max', ('min', A, B), A), table), [((0, 1), *FLAT)])
        self.assertEqual(trace(('median', A, B, A), table), [((0, 1), *FLAT)])

    def test_start_at_a_crossing(self):
        table = {'a': FLAT, 'b': STEEP}
        self.assertEqual(trace(('max', A, B), table, since=(3, 1)), [((3, 1), *STEEP)])
        self.assertEqual(trace(('max', B, A), table, since=(3, 1)), [((3, 1), *STEEP)])
        self.assertEqual(trace(('min', A, B), table, since=(3, 1)), [((3, 1), *FLAT)])
        self.assertEqual(trace(('min', B, A), table, since=(3, 1)), [((3, 1), *FLAT)])
        self.assertEqual(trace(('max', A, B), {'a': STEEP, 'b': ((0, 1), (2, 1))}), [((0, 1), (0, 1), (2, 1))])

    def test_start_around_a_crossing(self):
        table = {'a': FLAT, 'b': STEEP}
        self.assertEqual(trace(('max', A, B), table, since=(7, 2)), [((7, 2), *STEEP)])
        self.assertEqual(trace(('max', A, B), table, since=(5, 2)), [((5, 2), *FLAT), ((3, 1), *STEEP)])

    def test_equal_and_parallel_lines(self):
        table = {'a': STEEP, 'b': STEEP, 'c': ((1, 2), (1, 1))}
        self.assertEqual(trace(('max', A, B), table), [((0, 1), *STEEP)])
        self.assertEqual(trace(('min', A, B, C), table), [((0, 1), *STEEP)])
        self.assertEqual(trace(('max', A, C, B), table), [((0, 1), *table['c'])])

    def test_several_crossings_at_one_instant(self):
        table = {'a': ((0, 1), (1, 1)), 'b': ((2, 1), (0, 1)), 'c': ((4, 1), (-1, 1))}
        self.assertEqual(trace(('max', A, B, C), table), [((0, 1), *table['c']), ((2, 1), *table['a'])])
        self.assertEqual(trace(('median', A, B, C), table), [((0, 1), *table['b'])])
        self.assertEqual(trace(('min', A, B, C), table), [((0, 1), *table['a']), ((2, 1), *table['c'])])

    def test_random_terms(self):
        source = Source(30)
        many = 0
        for _ in range(250):
            term, table = source.term(5), linear_table(source)
            many = max(many, len(self.check(term, table)))
            since = pair_of(abs(as_fraction(source.short_pair())))
            self.check(term, table, since)
        self.assertGreater(many, 4)

    def test_large_terms(self):
        source = Source(31)
        for size in range(10, 41):
            term = source.sized_term(size)
            self.assertTrue(is_valid_term(term))
            self.check(term, linear_table(source))

    def test_long_numbers(self):
        source = Source(32)
        for _ in range(30):
            table = {name: (source.pair(), source.pair()) for name in NAMES}
            since = pair_of(abs(as_fraction(source.pair())))
            self.check(source.term(4), table, since)

    def test_pieces_are_selectable_and_agree_at_crossings(self):
        source = Source(33)
        for _ in range(150):
            term, table = source.term(4), linear_table(source)
            lines = selectable_lines(term, table)
            if len(lines) <= 40:
                pieces = trace(term, table, since=(1, 3))
                for piece in pieces:
                    self.assertIn((as_fraction(piece[1]), as_fraction(piece[2])), lines)
                self.check_values(term, table, pieces, crossings(lines, Fraction(1, 3)))

    def test_adjacent_pieces_meet(self):
        source = Source(34)
        for _ in range(100):
            pieces = trace(source.term(5), linear_table(source))
            for one, other in zip(pieces, pieces[1:]):
                start = as_fraction(other[0])
                self.assertEqual(value_of_pieces([one], start), value_of_pieces([other], start))

    def test_keywords(self):
        table = {'a': FLAT, 'b': STEEP}
        self.assertEqual(trace(table=table, term=A, since=(1, 1)), [((1, 1), *FLAT)])
        with self.assertRaises(TypeError):
            trace(A, table, (1, 1))

    def test_names_that_are_not_used(self):
        self.assertEqual(trace(A, {'a': FLAT, 'zz': STEEP}), [((0, 1), *FLAT)])

    def test_missing_names(self):
        term = ('max', ('min', C, B), ('delay', A, (1, 1)), ('event', 'd'))
        for known, missing in (('', 'c'), ('c', 'b'), ('bcd', 'a'), ('abc', 'd'), ('abd', 'c')):
            table = {name: FLAT for name in known}
            with self.assertRaises(UnknownEvent) as caught:
                trace(term, table)
            self.assertEqual(caught.exception.name, missing)
            self.assertEqual(list(table), list(known))

    def test_arguments_do_not_change_and_lists_are_new(self):
        source = Source(35)
        for term in (A, ('max', A, B), ('mix', ((1, 1), A)), ('min', A), source.term(4)):
            table = linear_table(source)
            kept = copy.deepcopy((term, table))
            first = trace(term, table)
            wanted = list(first)
            first.clear()
            self.assertEqual(trace(term, table), wanted)
            self.assertEqual((term, table), kept)


if __name__ == "__main__":
    unittest.main()
