import copy
import time
import unittest
from fractions import Fraction

from samples import random_systems, system_of
from support import Source, as_fraction, chain, follows_at, pair_of, wide

from gaithold.errors import InvalidLimit, TermTooLarge, UnknownEvent
from gaithold.regimes import find_regime, is_regime, rate_of, rates_of
from gaithold.slack import MAX_DELAY, delay_event, find_slack
from gaithold.systems import EventSystem
from gaithold.terms import term_depth, term_size

A = ('event', 'a')
ONE = EventSystem([('a', ('delay', A, (1, 1)))])


class DelayEventTest(unittest.TestCase):
    def test_example(self):
        self.assertEqual(str(delay_event(ONE, 'a', (1, 2))), 'a: a + 1 + 1/2\n')

    def test_rows(self):
        for source, system in random_systems(90, 80):
            rows = copy.deepcopy(system.rows())
            for at, (name, term) in enumerate(rows):
                for amount in (source.short_pair(), (0, 1), (-7, 3), (10 ** 12 - 1, 1), (1 - 10 ** 12, 10 ** 12 - 2)):
                    wanted = list(rows)
                    wanted[at] = (name, ('delay', term, amount))
                    other = delay_event(system, name, amount)
                    self.assertIsInstance(other, EventSystem)
                    self.assertEqual(other.rows(), wanted)
                    self.assertEqual(delay_event(amount=amount, name=name, system=system), other)
            self.assertEqual(system.rows(), rows)

    def test_unknown_event(self):
        deep = EventSystem([('a', chain(10))])
        for system in (ONE, deep):
            for name in ('b', '', 'max', 'aa', 'A'):
                with self.assertRaises(UnknownEvent) as caught:
                    delay_event(system, name, (1, 1))
                self.assertEqual(caught.exception.name, name)

    def test_depth_limit(self):
        self.assertEqual(term_depth(delay_event(EventSystem([('a', chain(9))]), 'a', (1, 1)).term('a')), 10)
        with self.assertRaises(TermTooLarge) as caught:
            delay_event(EventSystem([('b', A), ('a', chain(10))]), 'a', (1, 1))
        self.assertEqual(caught.exception.name, 'a')
        self.assertEqual(delay_event(EventSystem([('b', A), ('a', chain(10))]), 'b', (1, 1)).names(), ['b', 'a'])

    def test_size_limit(self):
        for size in (38, 39, 40):
            system = EventSystem([('a', A), ('c', wide(size))])
            self.assertEqual(term_size(wide(size)), size)
            if size < 40:
                self.assertEqual(term_size(delay_event(system, 'c', (-1, 1)).term('c')), size + 1)
            else:
                with self.assertRaises(TermTooLarge) as caught:
                    delay_event(system, 'c', (-1, 1))
                self.assertEqual(caught.exception.name, 'c')
            self.assertEqual(system.term('c'), wide(size))


class FindSlackTest(unittest.TestCase):
    def check_regime(self, system, name, delay, regime):
        delayed = delay_event(system, name, (delay, 1))
        self.assertIsInstance(regime, tuple)
        self.assertEqual(regime, find_regime(delayed))
        self.assertIs(is_regime(delayed, *regime), True)
        for step in (0, Fraction(1, 2), 1000):
            self.assertTrue(follows_at(delayed.rows(), *regime[:2], regime[2] + step))

    def rate(self, system, name, target, delay):
        return as_fraction(rate_of(delay_event(system, name, (delay, 1)), target))

    def check(self, system, name, target, max_rate, limit):
        answer = find_slack(system, name, target=target, max_rate=max_rate, limit=limit)
        self.assertIsInstance(answer, tuple)
        most = as_fraction(max_rate)
        if answer[0] == 'exceeded':
            self.assertEqual(len(answer), 2)
            self.assertGreater(self.rate(system, name, target, 0), most)
            self.check_regime(system, name, 0, answer[1])
        elif answer[0] == 'unlimited':
            self.assertEqual(len(answer), 2)
            self.assertLessEqual(self.rate(system, name, target, limit), most)
            self.check_regime(system, name, limit, answer[1])
        else:
            tag, delay, regime, next_regime = answer
            self.assertEqual(tag, 'limited')
            self.assertIs(type(delay), int)
            self.assertTrue(0 <= delay < limit)
            self.assertLessEqual(self.rate(system, name, target, delay), most)
            self.assertGreater(self.rate(system, name, target, delay + 1), most)
            self.check_regime(system, name, delay, regime)
            self.check_regime(system, name, delay + 1, next_regime)
        return answer

    def test_example(self):
        self.assertEqual(find_slack(ONE, 'a', target='a', max_rate=(4, 1))[:2], ('limited', 3))

    def test_one_event(self):
        for max_rate, limit, wanted in (
            ((4, 1), 1000, ('limited', 3)), ((9, 2), 1000, ('limited', 3)), ((1, 1), 1000, ('limited', 0)),
            ((1, 2), 1000, ('exceeded',)), ((-4, 1), 0, ('exceeded',)), ((1, 1), 0, ('unlimited',)), ((1, 1), 1, ('limited', 0)),
            ((1001, 1), 1000, ('unlimited',)), ((2001, 2), 1000, ('limited', 999)), ((1000, 1), 1000, ('limited', 999)),
            ((4, 1), 3, ('unlimited',)), ((4, 1), 4, ('limited', 3)), ((10 ** 40, 3), 1000, ('unlimited',)),
        ):
            answer = self.check(ONE, 'a', 'a', max_rate, limit)
            self.assertEqual(tuple(one for one in answer if not isinstance(one, tuple)), wanted, (max_rate, limit))

    def test_random_systems(self):
        seen = {}
        for source, system in random_systems(91, 60):
            name, target = source.random.choice(system.names()), source.random.choice(system.names())
            start = self.rate(system, name, target, 0)
            for max_rate in (start - Fraction(1, 9), start, start + 1, start + Fraction(source.random.randint(0, 90), 7)):
                limit = source.random.choice((0, 1, 2, 10, 50))
                tag = self.check(system, name, target, pair_of(max_rate), limit)[0]
                seen[tag] = seen.get(tag, 0) + 1
        self.assertGreater(min(seen.get(tag, 0) for tag in ('limited', 'exceeded', 'unlimited')), 8)

    def test_every_smaller_delay(self):
        for source, system in random_systems(92, 24):
            name, target = source.random.choice(system.names()), source.random.choice(system.names())
            rates = [self.rate(system, name, target, delay) for delay in range(13)]
            for most in {rates[0], rates[5], rates[9] - Fraction(1, 50)}:
                answer = self.check(system, name, target, pair_of(most), 12)
                within = [delay for delay in range(13) if rates[delay] <= most]
                wanted = {0: ('exceeded',), 13: ('unlimited',)}.get(len(within), ('limited', max(within, default=None)))
                self.assertEqual(answer[:len(wanted)], wanted)

    def test_target_that_does_not_depend(self):
        system = system_of('a + 1', 'b + 2')
        self.assertEqual(self.check(system, 'a', 'b', (2, 1), 1000)[0], 'unlimited')
        self.assertEqual(self.check(system, 'a', 'b', (1, 1), 1000)[0], 'exceeded')

    def test_default_limit(self):
        self.assertEqual(MAX_DELAY, 1000)
        self.assertEqual(find_slack(ONE, 'a', target='a', max_rate=(1000, 1))[:2], ('limited', 999))
        answer = find_slack(ONE, 'a', target='a', max_rate=(1001, 1))
        self.assertEqual(answer, ('unlimited', find_regime(delay_event(ONE, 'a', (1000, 1)))))

    def test_errors_in_their_order(self):
        deep = EventSystem([('b', A), ('a', chain(10))])
        for name, target in (('x', 'y'), ('x', 'a'), ('x', 'x')):
            for limit in (0, -1, 1001):
                with self.assertRaises(UnknownEvent) as caught:
                    find_slack(deep, name, target=target, max_rate=(0, 1), limit=limit)
                self.assertEqual(caught.exception.name, 'x')
        for limit in (0, -1, 1001):
            with self.assertRaises(UnknownEvent) as caught:
                find_slack(deep, 'a', target='y', max_rate=(0, 1), limit=limit)
            self.assertEqual(caught.exception.name, 'y')
        for limit in (-1, 1001, -10 ** 29, 10 ** 30 - 1):
            with self.assertRaises(InvalidLimit) as caught:
                find_slack(deep, 'a', target='b', max_rate=(0, 1), limit=limit)
            self.assertEqual(caught.exception.number, limit)
        for limit in (0, 1, 1000):
            with self.assertRaises(TermTooLarge) as caught:
                find_slack(deep, 'a', target='b', max_rate=(0, 1), limit=limit)
            self.assertEqual(caught.exception.name, 'a')
        with self.assertRaises(TermTooLarge) as caught:
            find_slack(EventSystem([('a', A), ('c', wide(40))]), 'c', target='a', max_rate=(0, 1))
        self.assertEqual(caught.exception.name, 'c')
        self.assertEqual(find_slack(deep, 'b', target='a', max_rate=(99, 1))[0], 'unlimited')

    def test_keywords(self):
        answer = find_slack(limit=10, max_rate=(4, 1), target='a', name='a', system=ONE)
        self.assertEqual(answer, find_slack(ONE, 'a', target='a', max_rate=(4, 1)))
        with self.assertRaises(TypeError):
            find_slack(ONE, 'a', 'a', (4, 1))

    def test_same_again_and_unchanged(self):
        for source, system in random_systems(93, 12):
            rows = copy.deepcopy(system.rows())
            name = system.names()[0]
            first = find_slack(system, name, target=name, max_rate=(20, 1), limit=40)
            kept = copy.deepcopy(first)
            first[-1][0].clear()
            self.assertEqual(find_slack(system, name, target=name, max_rate=(20, 1), limit=40), kept)
            self.assertEqual(system.rows(), rows)

    def test_large_systems(self):
        source = Source(94)
        for _ in range(2):
            system = EventSystem(source.sized_rows(6, 39, 9))
            start = self.rate(system, 'a', 'c', 0)
            before = time.process_time()
            self.check(system, 'a', 'c', pair_of(start + Fraction(7, 3)), 1000)
            self.assertLess(time.process_time() - before, 30)


class RatesUnderDelaysTest(unittest.TestCase):
    def test_rates_grow_by_no_more_than_the_delay(self):
        for source, system in random_systems(95, 60):
            before = [as_fraction(one) for one in rates_of(system)]
            amount = abs(as_fraction(source.short_pair()))
            name = source.random.choice(system.names())
            for sign in (1, -1):
                after = rates_of(delay_event(system, name, pair_of(sign * amount)))
                for old, new in zip(before, after):
                    self.assertTrue(0 <= sign * (as_fraction(new) - old) <= amount)

    def test_a_delay_of_all_events(self):
        for source, system in random_systems(96, 60):
            amount = source.short_pair()
            delayed = system
            for name in system.names():
                delayed = delay_event(delayed, name, amount)
            wanted = [pair_of(as_fraction(one) + as_fraction(amount)) for one in rates_of(system)]
            self.assertEqual(rates_of(delayed), wanted)


if __name__ == "__main__":
    unittest.main()
