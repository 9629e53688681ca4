import copy
import itertools
import math
import time
import unittest
from fractions import Fraction

from samples import random_systems, system_of
from support import Source, as_fraction, follows_at, follows_from, restrictions_of, selectable_lines

from gaithold.regimes import find_regime, is_regime, rates_of
from gaithold.restrictions import is_restriction, lower_restriction, upper_restriction
from gaithold.systems import EventSystem
from gaithold.terms import is_valid_term

BOTH = ((True, lower_restriction), (False, upper_restriction))


def all_restrictions(system, lower):
    """All restrictions of one side, or none if there are too many."""
    options = [restrictions_of(term, lower) for term in system.terms()]
    if math.prod(len(option) for option in options) > 200:
        return []
    return [EventSystem(list(zip(system.names(), terms))) for terms in itertools.product(*options)]


class FindRestrictionTest(unittest.TestCase):
    def test_example(self):
        system = system_of('max(a + 1, a + 2)')
        self.assertEqual(str(lower_restriction(system)[0]), 'a: a + 2\n')

    def check(self, system, lower, restrict):
        answer = restrict(system)
        self.assertIsInstance(answer, tuple)
        other, since = answer
        self.assertIsInstance(other, EventSystem)
        self.assertIs(type(since), int)
        self.assertGreaterEqual(since, 0)
        self.assertEqual(other.names(), system.names())
        times, rates, _ = find_regime(system)
        self.assertIs(is_regime(other, times, rates, since), True)
        self.assertIs(is_restriction(system, other, lower=lower), True)
        return other, (times, rates, since)

    def test_random_systems(self):
        for _, system in random_systems(70, 150):
            for lower, restrict in BOTH:
                other, regime = self.check(system, lower, restrict)
                for step in (0, Fraction(1, 3), 1, 1000, 10 ** 40):
                    self.assertTrue(follows_at(other.rows(), *regime[:2], regime[2] + step))

    def test_is_one_of_all_restrictions(self):
        many = 0
        for _, system in random_systems(71, 150):
            for lower, restrict in BOTH:
                for term, one in zip(system.terms(), self.check(system, lower, restrict)[0].terms()):
                    options = restrictions_of(term, lower)
                    self.assertIn(one, options)
                    many += len(options) > 1
        self.assertGreater(many, 50)

    def test_at_every_instant(self):
        for _, system in random_systems(72, 60, 3):
            for lower, restrict in BOTH:
                other, regime = self.check(system, lower, restrict)
                table = dict(zip(other.names(), zip(*regime[:2])))
                if all(len(selectable_lines(term, table)) <= 12 for term in other.terms()):
                    self.assertTrue(follows_from(other.rows(), *regime))

    def test_nested_selections(self):
        system = system_of('max(min(a + 1, max(b, c) + 2), median(a, b, c))', 'b + 1', 'c + 3')
        lower = self.check(system, True, lower_restriction)[0]
        self.assertNotIn('max', str(lower))
        self.assertNotIn('median', str(lower))
        upper = self.check(system, False, upper_restriction)[0]
        self.assertNotIn('min', str(upper))
        self.assertNotIn('median', str(upper))

    def test_median_keeps_the_order_of_two_operands(self):
        texts = ('a + 1', 'b + 2', 'c + 3')
        for order in itertools.permutations('abc'):
            system = system_of(*texts, f'median({", ".join(order)})')
            low = [name for name in order if name != 'a']
            high = [name for name in order if name != 'c']
            self.assertEqual(str(lower_restriction(system)[0]).splitlines()[3], f'd: min({low[0]}, {low[1]})')
            self.assertEqual(str(upper_restriction(system)[0]).splitlines()[3], f'd: max({high[0]}, {high[1]})')

    def test_single_operands(self):
        system = system_of('max(min(a + 1))')
        self.assertEqual(str(lower_restriction(system)[0]), 'a: min(a + 1)\n')
        self.assertEqual(str(upper_restriction(system)[0]), 'a: max(a + 1)\n')

    def test_later_since(self):
        # In the end the faster event decides, although it starts far behind.
        system = system_of('a + 1', 'b + 2', 'max(a + 1000, b)', 'min(a, b - 1000)')
        lower, since = lower_restriction(system)
        self.assertEqual(str(lower).splitlines()[2:], ['c: b', 'd: min(a, b - 1000)'])
        self.assertIs(is_regime(lower, *find_regime(system)[:2], since), True)
        upper, since = upper_restriction(system)
        self.assertEqual(str(upper).splitlines()[2:], ['c: max(a + 1000, b)', 'd: a'])
        self.assertIs(is_regime(upper, *find_regime(system)[:2], since), True)

    def test_large_systems(self):
        source = Source(73)
        for _ in range(3):
            system = EventSystem(source.sized_rows(6, 40))
            for lower, restrict in BOTH:
                before = time.process_time()
                self.check(system, lower, restrict)
                self.assertLess(time.process_time() - before, 10)

    def test_runs_are_never_on_the_other_side(self):
        for source, system in random_systems(74, 80):
            lower, upper = lower_restriction(system)[0], upper_restriction(system)[0]
            times = [source.short_pair() for _ in range(len(system))]
            for rounds in (1, 2, 5, 20):
                rows = [one.simulate(times, rounds=rounds) for one in (lower, system, upper)]
                for low, middle, high in zip(*rows):
                    self.assertLessEqual(as_fraction(low), as_fraction(middle))
                    self.assertLessEqual(as_fraction(middle), as_fraction(high))

    def test_rates_stay(self):
        for _, system in random_systems(75, 80):
            rates = rates_of(system)
            self.assertEqual(rates_of(lower_restriction(system)[0]), rates)
            self.assertEqual(rates_of(upper_restriction(system)[0]), rates)

    def test_no_restriction_is_faster(self):
        for _, system in random_systems(76, 60, 3):
            rates = [as_fraction(one) for one in rates_of(system)]
            for lower in (True, False):
                for restriction in all_restrictions(system, lower):
                    other = [as_fraction(one) for one in rates_of(restriction)]
                    pairs = zip(other, rates) if lower else zip(rates, other)
                    self.assertTrue(all(one <= two for one, two in pairs))

    def test_same_again_and_unchanged(self):
        for _, system in random_systems(77, 30):
            rows = copy.deepcopy(system.rows())
            for _, restrict in BOTH:
                self.assertEqual(restrict(system), restrict(system=EventSystem(rows)))
            self.assertEqual(system.rows(), rows)


class IsRestrictionTest(unittest.TestCase):
    def test_example(self):
        system = system_of('median(a, a + 1, a + 2)')
        other = system_of('min(a, a + 2)')
        self.assertEqual([is_restriction(system, other), is_restriction(system, other, lower=False)], [True, False])

    def check(self, text, other, lower, upper):
        pair = system_of(text, 'b'), system_of(other, 'b')
        self.assertIs(is_restriction(*pair), lower, (text, other))
        self.assertIs(is_restriction(*pair, lower=True), lower, (text, other))
        self.assertIs(is_restriction(*pair, lower=False), upper, (text, other))

    def test_single_terms(self):
        for text, other, lower, upper in (
            ('a', 'a', True, True), ('a', 'b', False, False), ('a', 'a + 0', False, False), ('a + 0', 'a', False, False),
            ('a + 1', 'a + 1', True, True), ('a + 1', 'a + 2', False, False), ('a + 1', 'b + 1', False, False),
            ('max(a, b)', 'a', True, False), ('max(a, b)', 'b', True, False), ('max(a, b)', 'max(a, b)', False, True),
            ('max(a, b)', 'max(b, a)', False, False), ('max(a, b)', 'max(a)', False, False), ('max(a, b)', 'min(a, b)', False, False),
            ('max(a)', 'a', True, False), ('max(a)', 'max(a)', False, True), ('a', 'max(a)', False, False),
            ('min(a, b)', 'a', False, True), ('min(a, b)', 'min(a, b)', True, False), ('min(a, b)', 'min(a, b, b)', False, False),
            ('min(a, b, b)', 'min(a, b)', False, False), ('min(a)', 'a', False, True),
            ('median(a, b, a + 1)', 'min(a, b)', True, False), ('median(a, b, a + 1)', 'min(a, a + 1)', True, False),
            ('median(a, b, a + 1)', 'min(b, a + 1)', True, False), ('median(a, b, a + 1)', 'max(b, a + 1)', False, True),
            ('median(a, b, a + 1)', 'max(a, b)', False, True), ('median(a, b, a + 1)', 'max(a, a + 1)', False, True),
            ('median(a, b, a + 1)', 'min(b, a)', False, False), ('median(a, b, a + 1)', 'min(a + 1, a)', False, False),
            ('median(a, b, a + 1)', 'max(a + 1, b)', False, False), ('median(a, b, a + 1)', 'min(a, a)', False, False),
            ('median(a, b, a + 1)', 'median(a, b, a + 1)', False, False), ('median(a, b, a + 1)', 'a', False, False),
            ('median(a, b, a + 1)', 'min(a, b, a + 1)', False, False), ('median(a, b, a + 1)', 'min(a)', False, False),
            ('median(a, a, b)', 'min(a, a)', True, False), ('median(a, b, a)', 'min(b, a)', True, False),
            ('mix(1/3 a, 2/3 b)', 'mix(1/3 a, 2/3 b)', True, True), ('mix(1/3 a, 2/3 b)', 'mix(2/3 a, 1/3 b)', False, False),
            ('mix(1/3 a, 2/3 b)', 'mix(2/3 b, 1/3 a)', False, False), ('mix(1/2 a, 1/2 b)', 'mix(1/2 b, 1/2 a)', False, False),
            ('mix(1 a)', 'a', False, False), ('mix(1/2 max(a, b), 1/2 min(a, b))', 'mix(1/2 b, 1/2 min(a, b))', True, False),
            ('mix(1/2 max(a, b), 1/2 min(a, b))', 'mix(1/2 max(a, b), 1/2 a)', False, True),
            ('mix(1/2 max(a, b), 1/2 min(a, b))', 'mix(1/2 a, 1/2 a)', False, False),
            ('max(max(a, b), b + 1)', 'a', True, False), ('max(max(a, b), b + 1)', 'max(a, b)', False, False),
            ('max(max(a, b) + 2, b + 1)', 'a + 2', True, False), ('max(max(a, b) + 2, b + 1)', 'a', False, False),
            ('min(max(a, b), max(a, b))', 'min(a, b)', True, False), ('min(max(a, b), max(a, b))', 'max(a, b)', False, True),
            ('max(min(a, b), b + 1)', 'min(a, b)', True, False), ('max(min(a, b), b + 1)', 'max(a, b + 1)', False, True),
            ('median(max(a, b), a + 1, min(a, b))', 'min(b, min(a, b))', True, False),
            ('median(max(a, b), a + 1, min(a, b))', 'max(a + 1, b)', False, True),
            ('median(median(a, b, b + 1), a, b)', 'min(min(a, b + 1), b)', True, False),
            ('median(median(a, b, b + 1), a, b)', 'max(max(a, b), a)', False, True),
            ('median(median(a, b, b + 1), a, b)', 'min(max(a, b + 1), b)', False, False),
        ):
            self.check(text, other, lower, upper)

    def test_against_all_restrictions(self):
        many = 0
        for _, system in random_systems(80, 120, 3):
            for lower in (True, False):
                for other in all_restrictions(system, lower)[:20]:
                    self.assertIs(is_restriction(system, other, lower=lower), True)
                    many += 1
        self.assertGreater(many, 300)

    def test_mutated_reversed_and_unrelated(self):
        kinds = {True: 0, False: 0}
        for source, system in random_systems(81, 200, 3):
            names = system.names()
            rows = [row for _, row in zip(names, source.rows(len(names), 3))]
            others = [lower_restriction(system)[0], upper_restriction(system)[0], EventSystem(rows), system]
            for other in list(others):
                at = source.random.randrange(len(names))
                changed = list(other.rows())
                changed[at] = (names[at], source.random.choice((*system.terms(), *other.terms(), ('event', names[0]))))
                others.append(EventSystem(changed))
            for other, lower in itertools.product(others, (True, False)):
                if all(is_valid_term(term) for term in other.terms()):
                    options = [restrictions_of(term, lower) for term in system.terms()]
                    wanted = all(term in option for term, option in zip(other.terms(), options))
                    self.assertIs(is_restriction(system, other, lower=lower), wanted)
                    self.assertIs(is_restriction(lower=lower, other=other, system=system), wanted)
                    kinds[wanted] += 1
        self.assertGreater(min(kinds.values()), 200)

    def test_every_row_counts(self):
        system = system_of('max(a, b)', 'max(a, b)', 'max(a, b)')
        for at in range(3):
            texts = ['a', 'b', 'a']
            self.assertIs(is_restriction(system, system_of(*texts)), True)
            texts[at] = 'a + 1'
            self.assertIs(is_restriction(system, system_of(*texts)), False)

    def test_names(self):
        one = EventSystem([('a', ('event', 'a')), ('b', ('event', 'a'))])
        for rows in ([('b', ('event', 'a')), ('a', ('event', 'a'))], [('a', ('event', 'a'))],
                     [('a', ('event', 'a')), ('c', ('event', 'a'))], [*one.rows(), ('c', ('event', 'a'))]):
            for lower in (True, False):
                self.assertIs(is_restriction(one, EventSystem(rows), lower=lower), False)
                self.assertIs(is_restriction(EventSystem(rows), one, lower=lower), False)

    def test_lower_is_keyword_only(self):
        with self.assertRaises(TypeError):
            is_restriction(system_of('a'), system_of('a'), True)

    def test_deep_medians(self):
        text = 'a'
        low = 'a'
        for _ in range(9):
            text = f'median({text}, a, b)'
            low = f'min({low}, b)'
        self.check(text, low, True, False)
        self.check(text, low.replace('min', 'max'), False, True)
        self.check(text, low.replace('min(a, b)', 'min(b, b)'), False, False)


if __name__ == "__main__":
    unittest.main()
