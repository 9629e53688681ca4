import copy
import unittest

from samples import random_systems, system_of
from support import NAMES, Source, as_fraction, chain, pair_of, plain_round, plain_rounds, subterms_of, wide, with_parts

from gaithold.combine import compose, negate, repeat, union
from gaithold.errors import DuplicateName, InvalidCount, InvalidRound, NameMismatch, TermTooLarge
from gaithold.regimes import find_regime, is_regime, rates_of
from gaithold.systems import EventSystem
from gaithold.terms import is_valid_term, term_depth, term_size

A = ('event', 'a')
ONE = EventSystem([('a', ('delay', A, (1, 1)))])


def renamed(term, table):
    """The term with other terms in place of the event references, independent of the package."""
    if term[0] == 'event':
        return table[term[1]]
    return with_parts(term, [renamed(part, table) for part in subterms_of(term)])


def shifted_names(system):
    """The same system with names that none of the samples has."""
    table = {name: ('event', 'x' + name) for name in system.names()}
    return EventSystem([('x' + name, renamed(term, table)) for name, term in system.rows()])


def negated(times):
    return [pair_of(-as_fraction(one)) for one in times]


class UnionTest(unittest.TestCase):
    def test_example(self):
        self.assertEqual(union(ONE, EventSystem([('b', ('event', 'b'))])).names(), ['a', 'b'])

    def pairs(self, seed):
        systems = [system for _, system in random_systems(seed, 60)]
        return [(one, shifted_names(systems[at * 7 // 5])) for at, one in enumerate(systems[:40])]

    def test_rows_of_both(self):
        many = 0
        for one, other in self.pairs(100):
            kept = copy.deepcopy((one.rows(), other.rows()))
            if len(one) + len(other) <= 6:
                self.assertEqual(union(one, other).rows(), one.rows() + other.rows())
                self.assertEqual(union(other=other, one=one), EventSystem(one.rows() + other.rows()))
                many += 1
            else:
                with self.assertRaises(InvalidCount) as caught:
                    union(one, other)
                self.assertEqual(caught.exception.quantity, len(one) + len(other))
            self.assertEqual((one.rows(), other.rows()), kept)
        self.assertGreater(many, 10)

    def test_rates_and_regimes_carry_over(self):
        for one, other in self.pairs(101):
            if len(one) + len(other) <= 6:
                both = union(one, other)
                self.assertEqual(rates_of(both), rates_of(one) + rates_of(other))
                first, second = find_regime(one), find_regime(other)
                lines = [left + right for left, right in zip(first[:2], second[:2])]
                self.assertIs(is_regime(both, *lines, max(first[2], second[2])), True)

    def test_duplicates(self):
        for texts, others, name in ((('a',), ('a',), 'a'), (('a', 'b'), ('b', 'a'), 'a')):
            with self.assertRaises(DuplicateName) as caught:
                union(system_of(*texts), system_of(*others))
            self.assertEqual(caught.exception.name, name)
        one = EventSystem([('c', ('event', 'c')), ('b', ('event', 'b'))])
        with self.assertRaises(DuplicateName) as caught:
            union(one, EventSystem([('d', ('event', 'd')), ('b', ('event', 'd')), ('c', ('event', 'd'))]))
        self.assertEqual(caught.exception.name, 'b')

    def test_count_comes_first(self):
        with self.assertRaises(InvalidCount) as caught:
            union(system_of('a', 'a', 'a', 'a'), system_of('a', 'a', 'a'))
        self.assertEqual(caught.exception.quantity, 7)
        with self.assertRaises(InvalidCount) as caught:
            union(system_of(*'abcdef'), system_of(*'abcdef'))
        self.assertEqual(caught.exception.quantity, 12)
        self.assertEqual(len(union(system_of(*'abcde'), EventSystem([('f', ('event', 'f'))]))), 6)


class ComposeTest(unittest.TestCase):
    def test_example(self):
        self.assertEqual(str(compose(ONE, system_of('max(a, a + 2)'))), 'a: max(a + 1, a + 1 + 2)\n')

    def test_rows_and_rounds(self):
        many = too_large = 0
        for source, system in random_systems(102, 200, 3):
            rows = source.rows(len(system), 3)
            other = EventSystem(rows)
            kept = copy.deepcopy((system.rows(), rows))
            table = dict(system.rows())
            wanted = [(name, renamed(term, table)) for name, term in rows]
            large = [name for name, term in wanted if not is_valid_term(term)]
            if large:
                with self.assertRaises(TermTooLarge) as caught:
                    compose(system, other)
                self.assertEqual(caught.exception.name, large[0])
                too_large += 1
            else:
                both = compose(system, other)
                self.assertEqual(both.rows(), wanted)
                self.assertEqual(compose(other=other, one=system), both)
                times = [source.pair() for _ in rows]
                self.assertEqual(both.simulate(times), plain_round(rows, plain_round(system.rows(), times)))
                many += 1
            self.assertEqual((system.rows(), other.rows()), kept)
        self.assertGreater(many, 80)
        self.assertGreater(too_large, 3)

    def test_order_of_the_two_rounds(self):
        one, other = system_of('b', 'a + 1'), system_of('a + 2', 'a')
        self.assertEqual(str(compose(one, other)), 'a: b + 2\nb: b\n')
        self.assertEqual(str(compose(other, one)), 'a: a\nb: a + 2 + 1\n')

    def test_names(self):
        deep = EventSystem([('a', chain(10)), ('b', A)])
        others = (
            EventSystem([('b', A), ('a', A)]), ONE, EventSystem([('a', A), ('c', A)]), EventSystem([*deep.rows(), ('c', A)]))
        for other in others:
            for pair in ((deep, other), (other, deep)):
                with self.assertRaises(NameMismatch):
                    compose(*pair)

    def test_depth_limit(self):
        for left, right in ((5, 6), (1, 10), (10, 1), (2, 9)):
            system = compose(EventSystem([('a', chain(left))]), EventSystem([('a', chain(right))]))
            self.assertEqual(term_depth(system.term('a')), 10)
        for left, right in ((5, 7), (6, 6), (2, 10), (10, 2), (10, 10)):
            with self.assertRaises(TermTooLarge) as caught:
                compose(EventSystem([('a', chain(left))]), EventSystem([('a', chain(right))]))
            self.assertEqual(caught.exception.name, 'a')

    def test_size_limit(self):
        one = EventSystem([('a', ('max', *[A] * 4)), ('b', A)])
        tail = ('event', 'b')
        for size in range(36, 43):
            # Six times a term of size 5 below two others, three single events and a tail of delays.
            outer = ('min', ('max', *[A] * 6), *[('event', 'b')] * 3, tail)
            other = EventSystem([('a', outer), ('b', A)])
            if size <= 40:
                self.assertEqual(term_size(compose(one, other).term('a')), size)
            else:
                with self.assertRaises(TermTooLarge) as caught:
                    compose(one, other)
                self.assertEqual(caught.exception.name, 'a')
            tail = ('delay', tail, (1, 1))

    def test_first_event_that_is_too_large(self):
        one = EventSystem([('a', chain(6)), ('b', A), ('c', chain(6))])
        other = EventSystem([('a', ('event', 'b')), ('b', chain(6)), ('c', chain(6))])
        with self.assertRaises(TermTooLarge) as caught:
            compose(one, other)
        self.assertEqual(caught.exception.name, 'b')

    def test_wide_terms(self):
        with self.assertRaises(TermTooLarge):
            compose(EventSystem([('a', wide(40))]), EventSystem([('a', wide(40))]))
        self.assertEqual(compose(EventSystem([('a', wide(40))]), EventSystem([('a', A)])).terms(), [wide(40)])


class RepeatTest(unittest.TestCase):
    def test_example(self):
        self.assertEqual(str(repeat(ONE, 2)), 'a: a + 1 + 1\n')

    def test_rounds(self):
        many = 0
        for source, system in random_systems(103, 150, 2):
            kept = copy.deepcopy(system.rows())
            times = [source.pair() for _ in range(len(system))]
            wanted = system
            for quantity in range(1, 7):
                if quantity > 1:
                    table = dict(wanted.rows())
                    rows = [(name, renamed(term, table)) for name, term in kept]
                    large = [name for name, term in rows if not is_valid_term(term)]
                    if large:
                        self.check_too_large(system, range(quantity, 7), large[0])
                        break
                    wanted = EventSystem(rows)
                result = repeat(system, quantity)
                self.assertEqual(result, wanted)
                self.assertEqual(repeat(quantity=quantity, system=system), wanted)
                self.assertEqual(result.simulate(times), system.simulate(times, rounds=quantity))
                self.assertEqual(result.simulate(times, rounds=2), plain_rounds(kept, times, 2 * quantity))
                many += 1
            self.assertEqual(system.rows(), kept)
        self.assertGreater(many, 200)

    def check_too_large(self, system, quantities, name):
        for quantity in quantities:
            with self.assertRaises(TermTooLarge) as caught:
                repeat(system, quantity)
            self.assertEqual(caught.exception.name, name)

    def test_first_composition_that_is_too_large(self):
        # After two rounds only b is too large; after three rounds a would be too large, too.
        deep = renamed(chain(6), {'a': ('event', 'b')})
        self.check_too_large(EventSystem([('a', ('event', 'b')), ('b', deep)]), range(2, 7), 'b')
        self.check_too_large(EventSystem([('a', ('event', 'b')), ('b', ('max', *[('event', 'b')] * 6))]), range(2, 7), 'b')
        self.check_too_large(EventSystem([('a', ('max', A, A, A)), ('b', ('event', 'a'))]), range(4, 7), 'a')

    def test_six_rounds(self):
        self.assertEqual(str(repeat(ONE, 6)), 'a: a' + ' + 1' * 6 + '\n')
        swap = system_of('b', 'a')
        self.assertEqual([repeat(swap, 5), repeat(swap, 6)], [swap, system_of('a', 'b')])

    def test_wrong_quantities(self):
        large = EventSystem([('a', chain(10))])
        for quantity in (0, 7, -1, 100, 10 ** 30 - 1, -10 ** 29):
            for system in (ONE, large):
                with self.assertRaises(InvalidRound) as caught:
                    repeat(system, quantity)
                self.assertEqual(caught.exception.number, quantity)
        self.assertEqual(repeat(large, 1), large)
        with self.assertRaises(TermTooLarge):
            repeat(large, 2)

    def test_rates_are_multiplied(self):
        for _, system in random_systems(104, 60, 2):
            rates = rates_of(system)
            times, _, since = find_regime(system)
            for quantity in (1, 2, 3):
                try:
                    result = repeat(system, quantity)
                except TermTooLarge:
                    break
                wanted = [pair_of(quantity * as_fraction(rate)) for rate in rates]
                self.assertEqual(rates_of(result), wanted)
                self.assertIs(is_regime(result, times, wanted, since), True)


class NegateTest(unittest.TestCase):
    def test_example(self):
        self.assertEqual(str(negate(system_of('max(a + 1, a)'))), 'a: min(a - 1, a)\n')

    def test_every_kind(self):
        system = system_of('median(a + 1/2, max(a, b), min(a - 3, b + 0))', 'mix(1/3 a + 1, 2/3 min(max(b), a))')
        wanted = 'a: median(a - 1/2, min(a, b), max(a + 3, b + 0))\nb: mix(1/3 a - 1, 2/3 max(min(b), a))\n'
        self.assertEqual(str(negate(system)), wanted)
        self.assertEqual(negate(system=system), negate(system))

    def test_random_systems(self):
        for source, system in random_systems(105, 120):
            kept = copy.deepcopy(system.rows())
            other = negate(system)
            self.assertEqual(negate(other), system)
            times = [source.pair() for _ in kept]
            for rounds in (1, 3):
                self.assertEqual(other.simulate(negated(times), rounds=rounds), negated(system.simulate(times, rounds=rounds)))
            self.assertEqual(system.rows(), kept)

    def test_rates_and_regimes_are_negated(self):
        for _, system in random_systems(106, 60):
            times, rates, since = find_regime(system)
            self.assertEqual(rates_of(negate(system)), negated(rates))
            self.assertIs(is_regime(negate(system), negated(times), negated(rates), since), True)

    def test_large_terms(self):
        source = Source(107)
        for size in (13, 26, 40):
            system = EventSystem(source.sized_rows(6, size))
            self.assertEqual(negate(negate(system)), system)
            self.assertEqual([term_size(term) for term in negate(system).terms()], [size] * len(NAMES))


if __name__ == "__main__":
    unittest.main()
