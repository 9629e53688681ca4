import copy
import itertools
import math
import time
import unittest
from fractions import Fraction

from samples import random_systems, system_of
from support import (
    NAMES, Source, as_fraction, distance_of, follows_at, follows_from, is_canonical, line_at, pair_of, plain_round,
    plain_rounds, plain_value, selectable_lines,
)

from gaithold.errors import InvalidRound, InvalidTimes, UnknownEvent
from gaithold.regimes import distance, find_regime, is_regime, rate_of, rates_of, regime_times
from gaithold.systems import EventSystem

A = ('event', 'a')
ONE = EventSystem([('a', ('delay', A, (1, 1)))])


def small_systems(seed, many):
    """Systems for which every line of every selection can be listed."""
    for source, system in random_systems(seed, many, 3):
        table = {name: ((at, 1), (at * at, 1)) for at, name in enumerate(system.names())}
        if all(len(selectable_lines(term, table)) <= 12 for term in system.terms()):
            yield source, system


def tiny_leak(depth, target='c'):
    """The text of a term that reaches the target with the weight (10 ** 12 - 1) ** -depth."""
    text = target
    for _ in range(depth):
        text = f'mix(1/999999999999 {text}, 999999999998/999999999999 a)'
    return text


def simple_cycles(edges, start):
    """The means of all simple cycles that can be reached from an event."""
    reached, border = {start}, [start]
    while border:
        border = [to for at in border for to, _ in edges[at] if to not in reached]
        reached.update(border)
    means = []

    def walk(path, weights):
        for to, weight in edges[path[-1]]:
            if to == path[0]:
                means.append(sum(weights + [weight]) / len(path))
            elif to not in path:
                walk(path + [to], weights + [weight])

    for at in reached:
        walk([at], [])
    return means


def edge_of(term):
    """The event of a delayed event, and its delay."""
    return (term[1], Fraction(0)) if term[0] == 'event' else (term[1][1], as_fraction(term[2]))


class FindRegimeTest(unittest.TestCase):
    def check_form(self, system, regime):
        self.assertIsInstance(regime, tuple)
        times, rates, since = regime
        for row in (times, rates):
            self.assertIsInstance(row, list)
            self.assertEqual(len(row), len(system))
            self.assertTrue(all(is_canonical(one) for one in row))
        self.assertIs(type(since), int)
        self.assertGreaterEqual(since, 0)

    def check(self, system):
        regime = find_regime(system)
        self.check_form(system, regime)
        since = regime[2]
        for step in (0, Fraction(1, 7), Fraction(1, 2), 1, Fraction(22, 7), 100, 10 ** 6, 10 ** 30, 10 ** 300):
            self.assertTrue(follows_at(system.rows(), *regime[:2], since + step), (str(system), regime, step))
        self.assertIs(is_regime(system, *regime), True)
        return regime

    def test_example(self):
        system = system_of('mix(1/2 a + 2, 1/2 a + 4)', 'max(a, b + 1)')
        self.assertEqual(rates_of(system), [(3, 1), (3, 1)])

    def test_random_systems(self):
        for _, system in random_systems(40, 300):
            self.check(system)

    def test_at_every_instant(self):
        many = 0
        for _, system in small_systems(41, 200):
            regime = self.check(system)
            self.assertTrue(follows_from(system.rows(), *regime), str(system))
            many += 1
        self.assertGreater(many, 100)

    def test_known_rates(self):
        cases = (
            (('a',), [0]),
            (('a - 1/3',), [Fraction(-1, 3)]),
            (('b + 1', 'a + 2'), [Fraction(3, 2)] * 2),
            (('a + 1', 'b + 2', 'max(a, b)'), [1, 2, 2]),
            (('a + 1', 'b + 2', 'min(a, b)'), [1, 2, 1]),
            (('a + 1', 'b + 2', 'mix(1/4 a, 3/4 b)'), [1, 2, Fraction(7, 4)]),
            (('a + 1', 'b + 3', 'c + 2', 'median(a, b, c)'), [1, 3, 2, 2]),
            (('mix(1/2 a, 1/2 b)', 'b + 1', 'mix(1/3 a, 2/3 d)', 'd - 5'), [1, 1, Fraction(1, 3) - Fraction(10, 3), -5]),
            (('max(b + 5, a)', 'min(a + 1, c)', 'c - 4'), [0, -4, -4]),
            (('max(b + 5, a)', 'min(a + 1, c)', 'c + 4'), [3, 3, 4]),
            (('b', 'c', 'd', 'e', 'f', 'a + 6'), [1] * 6),
            (('b', 'a', 'max(a, b, c - 1)'), [0, 0, 0]),
        )
        for texts, wanted in cases:
            system = system_of(*texts)
            self.assertEqual([as_fraction(one) for one in rates_of(system)], wanted, texts)
            self.check(system)

    def test_offsets_of_several_cycles(self):
        # Events with equal rates on separate cycles: their offsets must fit together.
        for texts in (
            ('a', 'b', 'max(a, b)'), ('a', 'b', 'max(a + 1, b, c - 1)', 'min(a, c, d + 2)'),
            ('b + 1', 'a - 1', 'd + 3', 'c - 3', 'max(a, d)', 'min(b, c, e)'),
            ('max(a, b - 1)', 'min(b, a + 2)', 'mix(1/2 a, 1/2 b)', 'median(a, b, c)'),
            ('mix(1/2 a, 1/2 b)', 'mix(1/2 a, 1/2 b)', 'c', 'max(a, c, d)', 'min(b, c, e)', 'median(d, e, f)'),
            ('b', 'a', 'max(a, c)', 'min(b, d)', 'mix(1/2 c, 1/2 d)', 'median(a, e, f + 1)'),
        ):
            regime = self.check(system_of(*texts))
            self.assertTrue(follows_from(system_of(*texts).rows(), *regime))

    def test_late_starts(self):
        system = system_of('a + 1', 'b + 2', 'max(a + 1000, b)')
        times, rates, since = self.check(system)
        gap = as_fraction(times[0]) - as_fraction(times[1]) + 1000
        self.assertGreaterEqual(since, gap)
        self.assertIs(is_regime(system, [(0, 1), (0, 1), (-2, 1)], rates, 1000), True)
        self.assertIs(is_regime(system, [(0, 1), (0, 1), (-2, 1)], rates, 999), False)
        self.check(system_of('a + 999999999998/999999999999', 'b + 1', 'max(a + 999999999999, b)', 'min(a, c, b - 5)'))

    def test_slow_leaks(self):
        # Short horizons mislead here: the leak towards the faster event is slower than any of them.
        for depth in (1, 2, 3, 6, 8):
            for kind, rate in (('max', 1), ('min', -1)):
                system = system_of(f'{kind}(b, {tiny_leak(depth)})', 'b', f'c + {rate}' if rate > 0 else 'c - 1')
                self.assertEqual([as_fraction(one) for one in rates_of(system)], [rate, 0, rate])
                self.check(system)

    def test_against_long_runs(self):
        for source, system in random_systems(42, 120):
            times = [source.short_pair() for _ in range(len(system))]
            regime = find_regime(system)
            start = distance_of(times, regime_times(regime, 0))
            late = system.simulate(times, rounds=100)
            for value, first, rate in zip(late, times, regime[1]):
                mean = (as_fraction(value) - as_fraction(first)) / 100
                self.assertLessEqual(abs(mean - as_fraction(rate)), 2 * start / 100)

    def test_distance_never_grows(self):
        for source, system in random_systems(43, 80):
            regime = find_regime(system)
            times = [source.pair() for _ in range(len(system))]
            first = distance(times, regime_times(regime, 0))
            for rounds in (1, 2, 3, 10):
                later = distance(system.simulate(times, rounds=rounds), regime_times(regime, rounds))
                self.assertLessEqual(as_fraction(later), as_fraction(first))

    def test_from_the_regime_itself(self):
        for _, system in random_systems(44, 60):
            regime = find_regime(system)
            for rounds in (0, 1, 5):
                self.assertEqual(system.simulate(regime_times(regime, 0), rounds=rounds), regime_times(regime, rounds))

    def test_six_rows_of_large_terms(self):
        source = Source(45)
        for size in (20, 30, 40, 40, 40):
            rows = source.sized_rows(6, size)
            system = EventSystem(rows)
            before = time.process_time()
            regime = find_regime(system)
            self.assertLess(time.process_time() - before, 10)
            self.check_form(system, regime)
            self.assertIs(is_regime(system, *regime), True)
            for step in (0, Fraction(1, 3), 1, 10 ** 50):
                self.assertTrue(follows_at(rows, *regime[:2], regime[2] + step))

    def test_long_nested_weights(self):
        source = Source(46)
        top = 10 ** 12 - 1

        def nested(depth):
            if depth == 1:
                return source.delayed(NAMES)
            part = Fraction(source.random.randint(1, top - 1), top - source.random.randint(0, 50))
            if part >= 1 or source.random.random() < 0.3:
                return (source.random.choice(('max', 'min')), nested(depth - 1), source.delayed(NAMES))
            return ('mix', (pair_of(part), nested(depth - 1)), (pair_of(1 - part), source.delayed(NAMES)))

        for _ in range(4):
            system = EventSystem([(name, nested(8)) for name in NAMES])
            before = time.process_time()
            regime = find_regime(system)
            self.assertLess(time.process_time() - before, 10)
            self.assertIs(is_regime(system, *regime), True)
            self.assertTrue(follows_at(system.rows(), *regime[:2], Fraction(regime[2])))
            self.assertTrue(follows_at(system.rows(), *regime[:2], Fraction(regime[2] * 3 + 1, 2) + 10 ** 40))

    def test_same_again(self):
        systems = [system for _, system in random_systems(47, 30)]
        first = [find_regime(system) for system in systems]
        kept = copy.deepcopy(first)
        for times, rates, _ in first:
            times.clear()
            rates.append((7, 1))
        for system, regime in reversed(list(zip(systems, kept))):
            self.assertEqual(find_regime(EventSystem(system.rows())), regime)
            self.assertEqual(find_regime(system=system), regime)
            self.assertEqual(rates_of(system=system), regime[1])

    def test_systems_do_not_change(self):
        for _, system in random_systems(48, 30):
            rows = copy.deepcopy(system.rows())
            regime = find_regime(system)
            rates_of(system).clear()
            is_regime(system, *regime)
            self.assertEqual(system.rows(), rows)


class RatesTest(unittest.TestCase):
    def test_rates_of_the_regime(self):
        for _, system in random_systems(50, 40):
            rates = find_regime(system)[1]
            self.assertEqual(rates_of(system), rates)
            for name, rate in zip(system.names(), rates):
                self.assertEqual(rate_of(system, name), rate)
                self.assertEqual(rate_of(name=name, system=system), rate)

    def test_order_of_names(self):
        system = EventSystem([('b', ('delay', ('event', 'b'), (2, 1))), ('a', ('delay', A, (1, 1)))])
        self.assertEqual(rates_of(system), [(2, 1), (1, 1)])
        self.assertEqual([rate_of(system, 'a'), rate_of(system, 'b')], [(1, 1), (2, 1)])

    def test_unknown_event(self):
        for name in ('b', '', 'max', 'A', 'abcdefg'):
            with self.assertRaises(UnknownEvent) as caught:
                rate_of(ONE, name)
            self.assertEqual(caught.exception.name, name)

    def test_extreme_mean_of_reachable_cycles(self):
        for kind, extreme in (('max', max), ('min', min)):
            source = Source(51)
            for at in range(60):
                rows = source.choice_rows(1 + at % 6, kind)
                edges = {name: [edge_of(part) for part in term[1:]] for name, term in rows}
                wanted = [extreme(simple_cycles(edges, name)) for name, _ in rows]
                self.assertEqual([as_fraction(one) for one in rates_of(EventSystem(rows))], wanted)

    def test_max_min_and_min_max_over_all_selections(self):
        source = Source(52)
        for at in range(60):
            outer, inner = (('max', 'min'), ('min', 'max'))[at % 2]
            rows = source.choice_rows(1 + at % 4, outer, inner)
            rates = [as_fraction(one) for one in rates_of(EventSystem(rows))]
            self.check_games(rows, rates, max if outer == 'max' else min, min if outer == 'max' else max)

    def check_games(self, rows, rates, first, second):
        """The value does not depend on which side selects first."""
        names = [name for name, _ in rows]
        table = {}
        for chosen in itertools.product(*[range(len(term) - 1) for _, term in rows]):
            options = [range(len(term[1 + at]) - 1) for (_, term), at in zip(rows, chosen)]
            for below in itertools.product(*options):
                leaves = [term[1 + at][1 + deep] for (_, term), at, deep in zip(rows, chosen, below)]
                table.setdefault(chosen, []).append(self.functional_rates(names, leaves))
        for at in range(len(names)):
            best = first(second(one[at] for one in outcomes) for outcomes in table.values())
            self.assertEqual(rates[at], best)
        # The other order: the inner side selects for every operand before the outer side selects one.
        plans = [list(itertools.product(*[range(len(part) - 1) for part in term[1:]])) for _, term in rows]
        if math.prod(len(plan) for plan in plans) <= 3000:
            self.check_inner_first(rows, rates, plans, first, second)

    def check_inner_first(self, rows, rates, plans, first, second):
        names = [name for name, _ in rows]
        outcomes = []
        for plan in itertools.product(*plans):
            parts = [[part[1 + deep] for part, deep in zip(term[1:], picks)] for (_, term), picks in zip(rows, plan)]
            edges = {name: [edge_of(part) for part in options] for name, options in zip(names, parts)}
            outcomes.append([first(simple_cycles(edges, name)) for name in names])
        self.assertEqual([second(column) for column in zip(*outcomes)], rates)

    def functional_rates(self, names, leaves):
        edges = {name: [edge_of(leaf)] for name, leaf in zip(names, leaves)}
        return [max(simple_cycles(edges, name)) for name in names]

    def test_one_event(self):
        source = Source(53)
        for at in range(60):
            rows = source.sized_rows(1, 1 + at % 40)
            system = EventSystem(rows)
            wanted = pair_of(plain_value(rows[0][1], {'a': (0, 1)}))
            self.assertEqual(rates_of(system), [wanted])
            time_now = source.pair()
            for rounds in (1, 2, 3):
                after = as_fraction(system.simulate([time_now], rounds=rounds)[0])
                self.assertEqual(after, as_fraction(time_now) + rounds * as_fraction(wanted))


class IsRegimeTest(unittest.TestCase):
    def variants(self, source, system):
        """Regimes with a change, and arbitrary lines."""
        times, rates, since = find_regime(system)
        at = source.random.randrange(len(system))
        step = source.short_pair()
        moved = [pair_of(as_fraction(time) + as_fraction(step)) for time in times]

        def changed(row, amount):
            return [pair_of(as_fraction(one) + amount * (place == at)) for place, one in enumerate(row)]

        yield times, rates, since
        yield moved, rates, since
        yield times, rates, since + 3
        yield times, rates, max(0, since - 1)
        yield times, rates, 0
        yield line_at(times, rates, 2), rates, since
        yield line_at(times, rates, Fraction(1, 2)), rates, since
        yield line_at(times, rates, -since), rates, 0
        yield changed(times, Fraction(1, 3)), rates, since
        yield changed(times, -2), rates, since + 50
        yield times, changed(rates, Fraction(1, 4)), since
        yield times, changed(rates, -1), since
        yield rates, times, since
        yield [source.short_pair() for _ in times], rates, since
        yield [source.short_pair() for _ in times], [source.short_pair() for _ in times], source.random.randint(0, 9)

    def test_example(self):
        self.assertEqual([is_regime(ONE, [(5, 1)], [(1, 1)], 0), is_regime(ONE, [(5, 1)], [(2, 1)], 0)], [True, False])

    def test_if_and_only_if(self):
        seen = {True: 0, False: 0}
        for source, system in small_systems(60, 160):
            for times, rates, since in self.variants(source, system):
                wanted = follows_from(system.rows(), times, rates, since)
                self.assertIs(is_regime(system, times, rates, since), wanted, (str(system), times, rates, since))
                seen[wanted] += 1
        self.assertGreater(min(seen.values()), 200)

    def test_between_integers(self):
        # The round follows the lines at every integer, but not at every instant between 0 and 1.
        system = system_of('a + 2', 'b - 2', 'max(c, min(a, b))')
        lines = ([(0, 1), (2, 1), (1, 2)], [(2, 1), (-2, 1), (0, 1)])
        for instant in (0, 1, 2, 3, 100):
            self.assertTrue(follows_at(system.rows(), *lines, instant))
        self.assertFalse(follows_at(system.rows(), *lines, Fraction(1, 2)))
        self.assertIs(is_regime(system, *lines, 0), False)
        self.assertIs(is_regime(system, *lines, 1), True)

    def test_only_at_the_start_or_only_later(self):
        system = system_of('a + 1', 'b', 'max(a, b, c)')
        self.assertTrue(is_regime(system, [(-5, 1), (0, 1), (-6, 1)], [(1, 1), (0, 1), (1, 1)], 5))
        self.assertFalse(is_regime(system, [(-5, 1), (0, 1), (-6, 1)], [(1, 1), (0, 1), (1, 1)], 4))
        self.assertFalse(is_regime(system, [(-5, 1), (0, 1), (0, 1)], [(1, 1), (0, 1), (0, 1)], 0))
        self.assertFalse(is_regime(system, [(-10 ** 40, 1), (0, 1), (0, 1)], [(1, 1), (0, 1), (0, 1)], 0))

    def test_shifted_and_advanced(self):
        for source, system in random_systems(61, 60):
            times, rates, since = find_regime(system)
            amount = as_fraction(source.pair())
            moved = [pair_of(as_fraction(time) + amount) for time in times]
            self.assertIs(is_regime(system, moved, rates, since), True)
            for rounds in (1, 7, 10 ** 29):
                self.assertIs(is_regime(system, times, rates, since + rounds), True)
                self.assertIs(is_regime(system, regime_times((times, rates, since), rounds), rates, 0), True)

    def test_changed_rates(self):
        for source, system in random_systems(62, 60):
            times, rates, since = find_regime(system)
            at = source.random.randrange(len(system))
            for amount in (Fraction(1, 10 ** 30), -1, 5):
                other = list(rates)
                other[at] = pair_of(as_fraction(rates[at]) + amount)
                for start in (since, since + 10 ** 20):
                    self.assertIs(is_regime(system, times, other, start), False)

    def test_rates_are_the_same_in_every_regime(self):
        for source, system in small_systems(63, 40):
            rates = find_regime(system)[1]
            start = [source.short_pair() for _ in rates]
            for rounds in (12, 24):
                late = plain_rounds(system.rows(), start, rounds)
                steps = [pair_of(as_fraction(b) - as_fraction(a)) for a, b in zip(late, plain_round(system.rows(), late))]
                if is_regime(system, late, steps, 0):
                    self.assertEqual(steps, rates)

    def test_errors(self):
        system = system_of('a', 'b')
        good = [(0, 1), (0, 1)]
        for wrong in ([], [(0, 1)], [(0, 1)] * 3, [(0, 1)] * 7):
            for since in (0, -1):
                for times, rates in ((wrong, good), (good, wrong), (wrong, wrong)):
                    with self.assertRaises(InvalidTimes):
                        is_regime(system, times, rates, since)
        for since in (-1, -7, -10 ** 29):
            with self.assertRaises(InvalidRound) as caught:
                is_regime(system, good, good, since)
            self.assertEqual(caught.exception.number, since)

    def test_keywords_and_tuples(self):
        self.assertIs(is_regime(since=0, rates=((1, 1),), times=((5, 1),), system=ONE), True)

    def test_arguments_do_not_change(self):
        for source, system in small_systems(64, 20):
            for times, rates, since in self.variants(source, system):
                given = ([*times], [*rates])
                is_regime(system, *given, since)
                self.assertEqual(given, ([*times], [*rates]))


class DistanceTest(unittest.TestCase):
    def test_example(self):
        self.assertEqual(distance([(1, 1), (4, 1)], [(3, 1), (0, 1)]), (4, 1))

    def test_edges(self):
        self.assertEqual(distance([], []), (0, 1))
        self.assertEqual(distance((), []), (0, 1))
        self.assertEqual(distance([(1, 3)], ((1, 2),)), (1, 6))
        self.assertEqual(distance([(-5, 1), (0, 1)], [(-5, 1), (0, 1)]), (0, 1))
        self.assertEqual(distance(other=[(2, 1)], one=[(5, 1)]), (3, 1))

    def test_against_python(self):
        source = Source(65)
        for many in range(1, 40):
            one, other = ([source.pair() for _ in range(many)] for _ in range(2))
            kept = (list(one), list(other))
            self.assertEqual(distance(one, other), pair_of(distance_of(one, other)))
            self.assertEqual(distance(other, one), distance(one, other))
            self.assertEqual((one, other), kept)

    def test_wrong_lengths(self):
        for one, other in (([], [(0, 1)]), ([(0, 1)], []), ([(0, 1)] * 2, [(0, 1)] * 3)):
            with self.assertRaises(InvalidTimes):
                distance(one, other)


class RegimeTimesTest(unittest.TestCase):
    def test_example(self):
        self.assertEqual(regime_times(([(0, 1)], [(2, 1)], 3), 1), [(8, 1)])

    def test_any_number_of_rounds(self):
        source = Source(66)
        for at in range(30):
            times, rates = ([source.pair() for _ in range(at % 7)] for _ in range(2))
            since = source.random.choice((0, 1, 5, 10 ** 29))
            for rounds in (0, 1, -1, -since, 100, -10 ** 29, 10 ** 30 - 1):
                kept = (list(times), list(rates), since)
                result = regime_times((times, rates, since), rounds)
                self.assertIsInstance(result, list)
                self.assertEqual(result, line_at(times, rates, since + rounds))
                self.assertEqual((times, rates, since), kept)
        self.assertEqual(regime_times(rounds=2, regime=(((1, 2),), ((1, 1),), 0)), [(5, 2)])


if __name__ == "__main__":
    unittest.main()
