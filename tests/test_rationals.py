import unittest
from fractions import Fraction

from support import Source, as_fraction, is_canonical, pair_of

from gaithold.errors import ParseError, ZeroDenominator
from gaithold.rationals import (
    ZERO, add, ceiling, common_denominator, divide, format_fraction, fraction, index_of_max, index_of_min, is_less,
    least_multiple, multiply, parse_fraction, subtract, total,
)


class FractionTest(unittest.TestCase):
    def test_example(self):
        self.assertEqual(fraction(6, -4), (-3, 2))

    def test_zero_constant(self):
        self.assertEqual(ZERO, (0, 1))

    def test_edges(self):
        for num, den, wanted in (
            (0, 5, (0, 1)), (0, -5, (0, 1)), (0, 1, (0, 1)), (7, 7, (1, 1)), (-7, 7, (-1, 1)), (7, -7, (-1, 1)),
            (-6, -4, (3, 2)), (1, 3, (1, 3)), (5, 1, (5, 1)), (-5, -1, (5, 1)), (10 ** 90, -10 ** 89, (-10, 1)),
        ):
            self.assertEqual(fraction(num, den), wanted)

    def test_default_denominator(self):
        for num in (0, 4, -4, 10 ** 200):
            self.assertEqual(fraction(num), (num, 1))

    def test_keywords(self):
        self.assertEqual(fraction(num=6, den=4), (3, 2))
        self.assertEqual(fraction(den=4, num=6), (3, 2))
        self.assertEqual(fraction(6, den=4), (3, 2))
        self.assertEqual(fraction(num=6), (6, 1))

    def test_zero_denominator(self):
        for num in (0, 1, -1, 10 ** 40):
            with self.assertRaises(ZeroDenominator):
                fraction(num, 0)

    def test_against_python(self):
        source = Source(1)
        for _ in range(500):
            num, den = source.integer(), source.integer()
            if den != 0:
                result = fraction(num, den)
                self.assertTrue(is_canonical(result))
                self.assertEqual(result, pair_of(Fraction(num, den)))


class ArithmeticTest(unittest.TestCase):
    def test_examples(self):
        self.assertEqual(divide((1, 2), subtract((1, 1), (1, 4))), (2, 3))
        with self.assertRaises(ZeroDenominator):
            divide((1, 2), (0, 1))

    def test_zero_divided_by_zero(self):
        with self.assertRaises(ZeroDenominator):
            divide(ZERO, ZERO)

    def test_negative_divisor(self):
        self.assertEqual(divide((1, 2), (-1, 3)), (-3, 2))
        self.assertEqual(divide((0, 1), (-1, 3)), (0, 1))

    def test_keywords(self):
        self.assertEqual(add(one=(1, 2), other=(1, 3)), (5, 6))
        self.assertEqual(subtract(other=(1, 3), one=(1, 2)), (1, 6))
        self.assertEqual(multiply(one=(1, 2), other=(2, 3)), (1, 3))
        self.assertEqual(divide(other=(2, 1), one=(1, 2)), (1, 4))
        self.assertIs(is_less(other=(2, 1), one=(1, 2)), True)

    def check_pair(self, one, other):
        left, right = as_fraction(one), as_fraction(other)
        self.assertEqual(add(one, other), pair_of(left + right))
        self.assertEqual(subtract(one, other), pair_of(left - right))
        self.assertEqual(multiply(one, other), pair_of(left * right))
        self.assertIs(is_less(one, other), left < right)
        if right != 0:
            self.assertEqual(divide(one, other), pair_of(left / right))

    def test_against_python(self):
        source = Source(2)
        for _ in range(300):
            one, other = source.pair(), source.pair()
            self.check_pair(one, other)
            self.check_pair(other, one)
            self.check_pair(one, one)
            self.check_pair(one, ZERO)
            self.check_pair(ZERO, one)

    def test_close_fractions(self):
        big = 10 ** 40
        self.assertIs(is_less((big, big + 1), (big + 1, big + 2)), True)
        self.assertIs(is_less((big + 1, big + 2), (big, big + 1)), False)


class RowTest(unittest.TestCase):
    def test_examples(self):
        self.assertEqual(total([(1, 2), (1, 3)], start=(1, 6)), (1, 1))
        self.assertEqual([index_of_max([(1, 2), (3, 4), (3, 4)]), index_of_min([(1, 2), (3, 4)])], [1, 0])

    def test_empty_total(self):
        self.assertEqual(total([]), ZERO)
        self.assertEqual(total(()), ZERO)
        self.assertEqual(total([], start=(-5, 3)), (-5, 3))

    def test_start_is_keyword_only(self):
        with self.assertRaises(TypeError):
            total([(1, 2)], (1, 2))

    def test_keywords(self):
        self.assertEqual(total(row=[(1, 2)]), (1, 2))
        self.assertEqual(total(start=(1, 2), row=((1, 2),)), (1, 1))
        self.assertEqual(index_of_max(row=[(0, 1), (1, 1)]), 1)
        self.assertEqual(index_of_min(row=[(1, 1), (0, 1)]), 1)

    def test_first_of_equal_elements(self):
        row = [(1, 2), (2, 1), (-1, 3), (2, 1), (-1, 3), (1, 2)]
        self.assertEqual(index_of_max(row), 1)
        self.assertEqual(index_of_min(row), 2)
        self.assertEqual(index_of_max([(3, 7)] * 60), 0)
        self.assertEqual(index_of_min([(3, 7)] * 60), 0)

    def test_against_python(self):
        source = Source(3)
        for many in range(61):
            row = [source.short_pair() for _ in range(many)]
            kept, values = list(row), [as_fraction(one) for one in row]
            for given in (row, tuple(row)):
                self.assertEqual(total(given), pair_of(sum(values, Fraction(0))))
                self.assertEqual(total(given, start=(-7, 5)), pair_of(sum(values, Fraction(-7, 5))))
                if many > 0:
                    self.assertEqual(index_of_max(given), values.index(max(values)))
                    self.assertEqual(index_of_min(given), values.index(min(values)))
            self.assertEqual(row, kept)


class MultipleTest(unittest.TestCase):
    def test_least_multiple(self):
        for one, other, wanted in ((1, 1, 1), (4, 6, 12), (6, 4, 12), (3, 9, 9), (5, 7, 35), (10 ** 40, 10 ** 39, 10 ** 40)):
            self.assertEqual(least_multiple(one, other), wanted)

    def test_common_denominator(self):
        self.assertEqual(common_denominator([]), 1)
        self.assertEqual(common_denominator([(0, 1), (5, 1)]), 1)
        self.assertEqual(common_denominator(((1, 4), (-5, 6), (2, 3))), 12)


class CeilingTest(unittest.TestCase):
    def test_example(self):
        self.assertEqual(ceiling((-1, 2)), 0)

    def test_edges(self):
        for one, wanted in (((0, 1), 0), ((5, 1), 5), ((-5, 1), -5), ((1, 2), 1), ((7, 3), 3), ((-7, 3), -2)):
            self.assertEqual(ceiling(one), wanted)
            self.assertEqual(ceiling(one=one), wanted)

    def test_bounds(self):
        source = Source(4)
        for _ in range(300):
            one = source.pair()
            result = ceiling(one)
            self.assertIs(type(result), int)
            self.assertTrue(as_fraction(one) <= result < as_fraction(one) + 1)


class TextTest(unittest.TestCase):
    def test_examples(self):
        self.assertEqual([format_fraction((-3, 4)), parse_fraction('5')], ['-3/4', (5, 1)])
        self.check_rejected('2/4')

    def check_rejected(self, text):
        with self.subTest(text), self.assertRaises(ParseError) as caught:
            parse_fraction(text)
        self.assertEqual(caught.exception.pos, 0)

    def test_canonical_texts(self):
        for one, text in (
            ((0, 1), '0'), ((1, 1), '1'), ((-1, 1), '-1'), ((10, 1), '10'), ((1, 10), '1/10'), ((-9, 20), '-9/20'),
            ((10 ** 30 - 1, 1), '9' * 30), ((-1, 10 ** 30 - 1), '-1/' + '9' * 30),
            ((1 - 10 ** 30, 10 ** 29), '-' + '9' * 30 + '/1' + '0' * 29),
        ):
            self.assertEqual(format_fraction(one), text)
            self.assertEqual(parse_fraction(text), one)

    def test_keywords(self):
        self.assertEqual(format_fraction(one=(1, 2)), '1/2')
        self.assertEqual(parse_fraction(text='1/2'), (1, 2))

    def test_long_numbers_are_written(self):
        self.assertEqual(format_fraction((10 ** 3999, 1)), '1' + '0' * 3999)
        self.assertEqual(format_fraction((-1, 10 ** 3999)), '-1/1' + '0' * 3999)

    def test_long_numbers_are_not_parsed(self):
        for text in ('1' + '0' * 30, '-1' + '0' * 30, '1/1' + '0' * 30, '9' * 31 + '/2', '1' * 3999, '0' * 31):
            self.check_rejected(text)

    def test_other_texts(self):
        for text in (
            '', '-', '/', '-/', '/2', '1/', '-/2', '-0', '0/1', '0/2', '-0/1', '00', '01', '-01', '01/2', '1/02',
            '1/1', '-5/1', '4/2', '-4/2', '6/4', '1/0', '0/0', '-1/0', '1/-2', '-1/-2', '+1', '--1', '1-', '1/+2',
            ' 1', '1 ', '1 /2', '1/ 2', '- 1', '1\n', '\n1', '\n', ' ', '1/2/3', '1//2', '1.5', '1e3', '1_0', '0x1',
            'a', '1a', 'a/2', '1/b', '(1, 2)', '~', '1,0', '\u0661', '\u00b2', '1/\u0662',
        ):
            self.check_rejected(text)

    def test_round_trip(self):
        for num in range(-40, 41):
            for den in range(1, 41):
                one = pair_of(Fraction(num, den))
                self.assertEqual(format_fraction(one), str(Fraction(num, den)))
                self.assertEqual(parse_fraction(format_fraction(one)), one)
                if one != (num, den):
                    self.check_rejected(f'{num}/{den}')


if __name__ == "__main__":
    unittest.main()
