import copy
import unittest

from support import Source, plain_text

from gaithold.errors import ParseError
from gaithold.syntax import format_term, parse_term
from gaithold.terms import is_valid_term, term_depth, term_size

A = ('event', 'a')
B = ('event', 'b')
C = ('event', 'c')
TOP = 10 ** 12 - 1

TEXTS = (
    (A, 'a'),
    (('event', 'abcdef'), 'abcdef'),
    (('event', 'event'), 'event'),
    (('event', 'delay'), 'delay'),
    (('event', 'maxi'), 'maxi'),
    (('event', 'mi'), 'mi'),
    (('delay', A, (0, 1)), 'a + 0'),
    (('delay', A, (2, 1)), 'a + 2'),
    (('delay', A, (-2, 1)), 'a - 2'),
    (('delay', A, (1, 2)), 'a + 1/2'),
    (('delay', A, (-10, 3)), 'a - 10/3'),
    (('delay', A, (TOP, 1)), 'a + 999999999999'),
    (('delay', A, (-1, TOP)), 'a - 1/999999999999'),
    (('delay', ('delay', A, (1, 1)), (-2, 1)), 'a + 1 - 2'),
    (('max', A), 'max(a)'),
    (('max', A, B), 'max(a, b)'),
    (('min', A, B, C, A, B, C), 'min(a, b, c, a, b, c)'),
    (('median', A, B, C), 'median(a, b, c)'),
    (('mix', ((1, 1), A)), 'mix(1 a)'),
    (('mix', ((1, 3), A), ((2, 3), ('delay', B, (1, 1)))), 'mix(1/3 a, 2/3 b + 1)'),
    (('delay', ('mix', ((1, 3), A), ((2, 3), B)), (1, 1)), 'mix(1/3 a, 2/3 b) + 1'),
    (('delay', ('max', A, ('delay', B, (-1, 1))), (0, 1)), 'max(a, b - 1) + 0'),
    (('max', ('min', ('median', A, B, ('mix', ((1, 1), C)))), A), 'max(min(median(a, b, mix(1 c))), a)'),
    (('mix', ((1, 2), ('mix', ((1, 1), A))), ((1, 2), ('max', B))), 'mix(1/2 mix(1 a), 1/2 max(b))'),
)


def chain_text(depth):
    return 'a' + ' + 1' * (depth - 1)


def nested_text(depth):
    return 'max(' * (depth - 1) + 'a' + ')' * (depth - 1)


def wide_text(size):
    """A text of a term of this size, from 13 to 43, that is 3 deep."""
    parts, left = [], size - 1
    for slots in range(6, 0, -1):
        share = left // slots
        left -= share
        parts.append('max(' + ', '.join('a' * (share - 1)) + ')')
    return 'min(' + ', '.join(parts) + ')'


class FormatTest(unittest.TestCase):
    def test_example(self):
        self.assertEqual(
            format_term(('mix', ((1, 3), ('event', 'a')), ((2, 3), ('delay', ('event', 'b'), (-1, 2))))),
            'mix(1/3 a, 2/3 b - 1/2)')

    def test_each_kind(self):
        for term, text in TEXTS:
            self.assertEqual(format_term(term), text)
            self.assertEqual(format_term(term=term), text)

    def test_random_terms(self):
        source = Source(10)
        for size in list(range(1, 41)) * 5:
            term = source.sized_term(size)
            kept = copy.deepcopy(term)
            self.assertEqual(format_term(term), plain_text(term))
            self.assertEqual(format_term(term), format_term(kept))
            self.assertEqual(term, kept)

    def test_beyond_the_limits(self):
        chain = A
        for _ in range(29):
            chain = ('delay', chain, (1, 1))
        self.assertEqual(format_term(chain), chain_text(30))
        self.assertEqual(format_term(('max', *[A] * 8)), 'max(a, a, a, a, a, a, a, a)')
        self.assertEqual(format_term(('delay', A, (-10 ** 40, 1))), 'a - 1' + '0' * 40)


class ParseTest(unittest.TestCase):
    def check_rejected(self, text):
        with self.subTest(text), self.assertRaises(ParseError) as caught:
            parse_term(text)
        self.assertEqual(caught.exception.pos, 0)
        self.assertEqual(caught.exception.tag, 'ParseError')

    def check_all_rejected(self, texts):
        for text in texts:
            self.check_rejected(text)

    def test_examples(self):
        self.assertEqual(
            parse_term('min(a + 2, b)'), ('min', ('delay', ('event', 'a'), (2, 1)), ('event', 'b')))
        self.check_rejected('min(a,b)')

    def test_each_kind(self):
        for term, text in TEXTS:
            self.assertEqual(parse_term(text), term)
            self.assertEqual(parse_term(text=text), term)

    def test_random_terms(self):
        source = Source(11)
        for size in list(range(1, 41)) * 5:
            term = source.sized_term(size)
            self.assertTrue(is_valid_term(term))
            self.assertEqual(term_size(term), size)
            text = format_term(term)
            self.assertEqual(parse_term(text), term)
            self.assertEqual(parse_term(text), parse_term(text))

    def test_wrong_blanks(self):
        self.check_all_rejected((
            ' ', ' a', 'a ', '\na', 'a\n', 'a+1', 'a +1', 'a+ 1', 'a  + 1', 'a +  1', 'a + 1 ', 'a + 1/ 2', 'a + 1 /2',
            'max( a)', 'max(a )', 'max (a)', ' max(a)', 'max(a) ', 'max(a,b)', 'max(a , b)', 'max(a,  b)', 'max(a,\nb)',
            'max(a, b )', 'mix(1a)', 'mix(1  a)', 'mix( 1 a)', 'mix(1 a )', 'mix(1/2 a,1/2 b)', 'mix(1/2 a,  1/2 b)',
            'mix(1/ 2 a, 1/2 b)', 'mix(1\na)', 'a b', 'a\t+ 1', 'median(a, b,c)', 'a +\n1', 'max(a) +1',
        ))

    def test_wrong_signs(self):
        self.check_all_rejected((
            'a - 0', 'a - 0/1', 'a + -1', 'a - -1', 'a + +1', 'a -1', 'a - +1', '-a', '+a', 'a + ', 'a - ', 'a +', 'a -',
            ' + 1', '+ 1', 'a * 2', 'a / 2', 'a + 1 - 0', 'a - 0 + 1', 'a + 1/-2', 'mix(-1 a)', 'mix(+1 a)', '- 1',
            'mix(2 a, -1 b)', 'mix(-1/2 a, 3/2 b)', 'max(-a)', 'max(a, - 1)', 'a + - 1', 'a ++ 1', 'a -- 1', 'a ~ 1',
        ))

    def test_wrong_numbers(self):
        self.check_all_rejected((
            'a + 2/4', 'a + 4/2', 'a + 5/1', 'a + 0/1', 'a + 0/3', 'a + 1/0', 'a + 0/0', 'a - 6/3', 'a + 01', 'a + 00',
            'a + 1/02', 'a + 01/2', 'a - 01', 'a + /2', 'a + 1/', 'a + /', 'a + 1//2', 'a + 1/2/3', 'a + 1.5', 'a + 1e3',
            'a + 1_0', 'a + x', 'a + b', 'a + max(b)', 'mix(2/2 a)', 'mix(1/1 a)', 'mix(01 a)', 'mix(2/4 a, 1/2 b)',
            'mix(1/2 a, 01/2 b)', 'mix(1/02 a, 1/2 b)', 'mix(1/0 a)', '1', '1/2', '0', 'a + \u0661', 'a + \u00b2',
        ))

    def test_wrong_operands(self):
        self.check_all_rejected((
            'max()', 'min()', 'median()', 'mix()', 'max(,)', 'max(a,)', 'max(a, )', 'max(, a)', 'max(a,, b)', 'max(a, , b)',
            'median(a)', 'median(a, b)', 'median(a, b, c, a)', 'max(a, a, a, a, a, a, a)', 'min(a, a, a, a, a, a, a)',
            'mix(1/7 a, 1/7 a, 1/7 a, 1/7 a, 1/7 a, 1/7 a, 1/7 a)', 'mix(a)', 'mix(1)', 'mix(1 )', 'mix(1, a)',
            'mix(1/2 a, b)', 'mix(1/2 a, 1/2)', 'mix(1 1 a)', 'max(1 a)', 'median(1 a, b, c)', 'max(a; b)', 'max(a b)',
            'mix(a 1)', 'max(1/2 a, 1/2 b)', 'delay(a, 1)', 'event(a)', 'avg(a, b)', 'a(b)', 'max(a)(b)',
        ))

    def test_wrong_weights(self):
        self.check_all_rejected((
            'mix(0 a)', 'mix(0 a, 1 b)', 'mix(2 a)', 'mix(1/2 a)', 'mix(1/2 a, 1/3 b)', 'mix(1/2 a, 2/3 b)', 'mix(1 a, 1 b)',
            'mix(1/2 a, 1/2 b, 1/2 c)', 'mix(3/2 a)', 'max(a, mix(1/2 b))', 'mix(1/2 a, 1/2 mix(1/2 b))',
        ))

    def test_wrong_names(self):
        self.check_all_rejected((
            '', 'max', 'min', 'median', 'mix', 'max + 1', 'mix - 1', 'max(min)', 'max(a, max)', 'mix(1 mix)', 'abcdefg',
            'max(a, abcdefg)', 'A', 'Max(a)', 'MAX(a)', 'a1', '1a', 'a_b', 'medians', 'maxx(a)', 'amax(a)', 'max[a]', '\u00e4',
            'a' * 4000,
        ))

    def test_wrong_brackets(self):
        self.check_all_rejected((
            '(', ')', '()', '(a)', 'max(', 'max)', 'max(a', 'maxa)', 'max(a, b', 'max(max(a)', 'max(a))', 'max((a))', 'a)',
            'mix(1 a', 'mix(1', 'mix(1 ', 'mix(1/2 a, 1/2 b', 'median(a, b, c', 'max(a + 1', 'max(a, ', 'max(a,',
        ))

    def test_text_behind_the_term(self):
        for text in ('a', 'a + 1', 'max(a, b)', 'mix(1 a)', 'median(a, b, c) - 1/2'):
            self.assertTrue(is_valid_term(parse_term(text)))
            self.check_all_rejected([text + more for more in (' ', '\n', ',', ', b', ')', '(', ' b', '/', ' +', ': a', ' + a')])

    def test_size(self):
        for size in range(13, 44):
            if size <= 40:
                self.assertEqual(term_size(parse_term(wide_text(size))), size)
            else:
                self.check_rejected(wide_text(size))

    def test_depth(self):
        for make in (chain_text, nested_text):
            for depth in range(1, 11):
                self.assertEqual(term_depth(parse_term(make(depth))), depth)
            for depth in (11, 12, 30, 700):
                self.check_rejected(make(depth))
        self.assertEqual(term_depth(parse_term('max(b, ' + chain_text(9) + ')')), 10)
        self.check_rejected('max(b, ' + chain_text(10) + ')')
        self.check_rejected(nested_text(6) + ' + 1' * 5)

    def test_unclosed_brackets_in_a_long_text(self):
        self.check_all_rejected(('max(' * 1000, 'mix(1 ' * 660, 'a' + ' + 1' * 999, 'max(' + 'a, ' * 1300 + 'a)', '(' * 4000))

    def test_digits(self):
        self.assertEqual(parse_term(f'a + {TOP}'), ('delay', A, (TOP, 1)))
        self.assertEqual(parse_term(f'a - {TOP - 1}/{TOP}'), ('delay', A, (1 - TOP, TOP)))
        self.assertEqual(parse_term(f'mix(1/{TOP} a, {TOP - 1}/{TOP} b)'), ('mix', ((1, TOP), A), ((TOP - 1, TOP), B)))
        self.check_all_rejected((
            f'a + {TOP + 1}', f'a - {TOP + 1}', f'a + 1/{TOP + 1}', f'mix(1/{TOP + 1} a, {TOP}/{TOP + 1} b)',
            f'a + {10 ** 29}', f'a + {10 ** 30}', 'a + ' + '9' * 3990, 'mix(' + '1' * 3990 + ' a)',
        ))

    def test_every_change_of_one_character(self):
        """A changed text is rejected, or it is the canonical text of what it is parsed to."""
        for text in ('mix(1/3 a, 2/3 max(b, c) - 1/2)', 'median(ab + 10, min(c), d + 0)'):
            for at in range(len(text) + 1):
                changed = [text[:at] + sign + text[at:] for sign in ' ,()+-/01ax\n']
                changed += [text[:at] + sign + text[at + 1:] for sign in ' ,()+-/01ax\n']
                for other in changed + [text[:at] + text[at + 1:], text[:at]]:
                    self.check_canonical_or_rejected(other)

    def check_canonical_or_rejected(self, text):
        try:
            term = parse_term(text)
        except ParseError as error:
            self.assertEqual(error.pos, 0)
        else:
            self.assertTrue(is_valid_term(term), text)
            self.assertEqual(plain_text(term), text)


if __name__ == "__main__":
    unittest.main()
