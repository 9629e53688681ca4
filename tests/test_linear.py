import copy
import itertools
import unittest
from fractions import Fraction

from support import Source, as_fraction, is_canonical, pair_of

from gaithold.errors import InvalidShape
from gaithold.linear import check_solution, solve_linear

ONE = (1, 1)
ZERO = (0, 1)


def is_right(rows, targets, answer):
    """Whether an answer is correct, by Python's own fractions."""
    tag, values = answer
    values = [as_fraction(one) for one in values]
    rows = [[as_fraction(one) for one in row] for row in rows]
    targets = [as_fraction(one) for one in targets]
    width = len(rows[0]) if rows else 0
    if tag == 'solution':
        sums = [sum(one * other for one, other in zip(row, values)) for row in rows]
        return len(values) == width and sums == targets
    if len(values) != len(rows):
        return False
    sums = [sum(weight * row[at] for weight, row in zip(values, rows)) for at in range(width)]
    return not any(sums) and sum(weight * target for weight, target in zip(values, targets)) != 0


def rank(rows):
    """The rank of a matrix, by Python's own fractions."""
    rows = [[as_fraction(one) for one in row] for row in rows]
    found = 0
    for column in range(len(rows[0]) if rows else 0):
        pivots = [row for row in rows if row[column] != 0]
        if pivots:
            found += 1
            first = pivots[0]
            rows = [[one - row[column] / first[column] * other for one, other in zip(row, first)]
                    for row in rows if row is not first]
    return found


def random_equations(source, height, width):
    """Equations with zeros, and with some rows that depend on those above them."""
    rows, targets = [], []
    for at in range(height):
        row = [source.random.choice((ZERO, source.short_pair())) for _ in range(width)]
        target = source.short_pair()
        if at >= 2 and source.random.random() < 0.4:
            one, other = source.random.sample(range(at), 2)
            row = [pair_of(2 * as_fraction(x) - as_fraction(y)) for x, y in zip(rows[one], rows[other])]
            if source.random.random() < 0.7:
                target = pair_of(2 * as_fraction(targets[one]) - as_fraction(targets[other]))
        rows.append(row)
        targets.append(target)
    return rows, targets


class SolveTest(unittest.TestCase):
    def solve(self, rows, targets):
        kept = copy.deepcopy((rows, targets))
        answer = solve_linear(rows, targets)
        self.assertEqual((rows, targets), kept)
        self.assertIsInstance(answer, tuple)
        self.assertEqual(len(answer), 2)
        self.assertIn(answer[0], ('solution', 'certificate'))
        self.assertIsInstance(answer[1], list)
        self.assertTrue(all(is_canonical(one) for one in answer[1]))
        self.assertTrue(is_right(rows, targets, answer), (rows, targets, answer))
        self.assertIs(check_solution(rows, targets, answer), True)
        self.assertEqual((rows, targets), kept)
        return answer

    def test_example(self):
        self.assertEqual(
            solve_linear([[(1, 1), (1, 1)], [(1, 1), (-1, 1)]], [(3, 1), (1, 1)]), ('solution', [(2, 1), (1, 1)]))

    def test_keywords(self):
        self.assertEqual(solve_linear(targets=[(3, 2)], rows=[[(2, 1)]]), ('solution', [(3, 4)]))

    def test_without_rows(self):
        for rows, targets in itertools.product(([], ()), repeat=2):
            self.assertEqual(solve_linear(rows, targets), ('solution', []))

    def test_rows_of_length_zero(self):
        self.assertEqual(solve_linear([[]], [ZERO]), ('solution', []))
        self.assertEqual(solve_linear([[], [], []], [ZERO] * 3), ('solution', []))
        self.assertEqual(solve_linear(((), ()), (ZERO, ZERO)), ('solution', []))
        for targets in ([ONE], [ZERO, (-1, 2)], [(1, 3), ZERO, (5, 1)]):
            answer = self.solve([[] for _ in targets], targets)
            self.assertEqual(answer[0], 'certificate')

    def test_one_equation(self):
        self.assertEqual(self.solve([[ZERO]], [ZERO])[0], 'solution')
        self.assertEqual(self.solve([[ZERO]], [ONE])[0], 'certificate')
        self.assertEqual(self.solve([[(2, 3)]], [(-1, 2)]), ('solution', [(-3, 4)]))
        self.assertEqual(self.solve([[ZERO, (2, 1), ZERO]], [ONE])[0], 'solution')

    def test_dependent_rows(self):
        rows = [[(1, 1), (2, 1)], [(2, 1), (4, 1)], [(-1, 2), (-1, 1)]]
        self.assertEqual(self.solve(rows, [(1, 1), (2, 1), (-1, 2)])[0], 'solution')
        self.assertEqual(self.solve(rows, [(1, 1), (2, 1), (1, 2)])[0], 'certificate')
        self.assertEqual(self.solve(rows, [(1, 1), (3, 1), (-1, 2)])[0], 'certificate')
        self.assertEqual(self.solve([rows[0]] * 5, [ONE] * 5)[0], 'solution')
        self.assertEqual(self.solve([rows[0]] * 5, [ONE] * 4 + [ZERO])[0], 'certificate')

    def test_zero_rows_and_columns(self):
        rows = [[ZERO, ZERO, ONE], [ZERO, ZERO, ZERO], [ZERO, ZERO, (3, 1)]]
        self.assertEqual(self.solve(rows, [ONE, ZERO, (3, 1)])[0], 'solution')
        self.assertEqual(self.solve(rows, [ONE, (1, 9), (3, 1)])[0], 'certificate')
        self.assertEqual(self.solve(rows, [ONE, ZERO, ONE])[0], 'certificate')

    def test_every_small_matrix(self):
        values = [(-1, 1), ZERO, (1, 2)]
        for a, b, c, d, x, y in itertools.product(values, repeat=6):
            rows, targets = [[a, b], [c, d]], [x, y]
            whole = [[*row, target] for row, target in zip(rows, targets)]
            wanted = 'solution' if rank(rows) == rank(whole) else 'certificate'
            self.assertEqual(self.solve(rows, targets)[0], wanted)

    def test_random_equations(self):
        source = Source(40)
        tags = []
        for height, width in itertools.product(range(1, 8), range(1, 8)):
            for _ in range(4):
                rows, targets = random_equations(source, height, width)
                whole = [[*row, target] for row, target in zip(rows, targets)]
                wanted = 'solution' if rank(rows) == rank(whole) else 'certificate'
                self.assertEqual(self.solve(rows, targets)[0], wanted)
                tags.append(wanted)
        self.assertGreater(min(tags.count('solution'), tags.count('certificate')), 30)

    def test_largest_equations(self):
        source = Source(41)
        for height, width in ((24, 24), (24, 24), (24, 23), (23, 24), (24, 5), (5, 24), (24, 1), (1, 24), (24, 0)):
            rows, targets = random_equations(source, height, width)
            self.solve(rows, targets)
        rows = [[source.short_pair() for _ in range(24)] for _ in range(24)]
        self.assertEqual(self.solve(rows, [source.short_pair() for _ in range(24)])[0], 'solution')
        last = [pair_of(sum((as_fraction(row[at]) for row in rows[:23]), Fraction(0))) for at in range(24)]
        self.assertEqual(self.solve([*rows[:23], last], [ONE] * 24)[0], 'certificate')
        self.assertEqual(self.solve([*rows[:23], last], [ONE] * 23 + [(23, 1)])[0], 'solution')

    def test_long_numbers(self):
        source = Source(42)
        for _ in range(5):
            rows = [[source.pair() for _ in range(5)] for _ in range(5)]
            self.solve(rows, [source.pair() for _ in range(5)])
            self.solve([*rows, rows[0]], [source.pair() for _ in range(6)])

    def test_repeated_calls_and_tuples(self):
        source = Source(43)
        for _ in range(20):
            rows, targets = random_equations(source, 5, 4)
            answer = solve_linear(rows, targets)
            self.assertEqual(solve_linear(rows, targets), answer)
            self.assertEqual(solve_linear(tuple(tuple(row) for row in rows), tuple(targets)), answer)
            self.assertEqual(solve_linear([tuple(row) for row in rows], tuple(targets)), answer)

    def test_returned_list_is_new(self):
        for rows, targets in (([], []), ([[ONE]], [ONE]), ([[]], [ONE]), ([[ZERO]], [ZERO])):
            first = solve_linear(rows, targets)[1]
            wanted = list(first)
            first.append(ONE)
            self.assertEqual(solve_linear(rows, targets)[1], wanted)


class CheckTest(unittest.TestCase):
    def check(self, rows, targets, answer, wanted):
        kept = copy.deepcopy((rows, targets, answer))
        tag, values = answer
        for pair in (answer, (tag, list(values)), (tag, tuple(values)), [tag, list(values)]):
            self.assertIs(check_solution(rows, targets, pair), wanted, (rows, targets, pair))
            self.assertIs(check_solution(tuple(tuple(row) for row in rows), tuple(targets), pair), wanted)
        self.assertEqual((rows, targets, answer), kept)

    def test_example(self):
        rows, targets = [[(1, 1)], [(2, 1)]], [(1, 1), (3, 1)]
        self.check(rows, targets, ('certificate', [(-2, 1), (1, 1)]), True)
        self.assertIs(check_solution(answer=('solution', [ONE]), targets=targets, rows=rows), False)

    def test_solutions(self):
        rows, targets = [[ONE, (1, 2)], [(2, 1), ONE]], [(3, 1), (6, 1)]
        for values, wanted in (
            ([(3, 1), ZERO], True), ([ZERO, (6, 1)], True), ([ONE, (4, 1)], True), ([(6, 1), ZERO], False),
            ([ZERO, (3, 1)], False), ([ZERO, ZERO], False), ([], False), ([(3, 1)], False), ([(3, 1), ZERO, ZERO], False),
        ):
            self.check(rows, targets, ('solution', values), wanted)
            self.check(rows, targets, ('certificate', values), False)

    def test_every_equation_counts(self):
        rows = [[ONE, ZERO], [ZERO, ONE], [ONE, ONE]]
        self.check(rows, [ONE, ONE, (2, 1)], ('solution', [ONE, ONE]), True)
        for targets in ([ZERO, ONE, (2, 1)], [ONE, ZERO, (2, 1)], [ONE, ONE, ZERO]):
            self.check(rows, targets, ('solution', [ONE, ONE]), False)

    def test_certificates(self):
        rows, targets = [[ONE, (2, 1)], [(1, 2), ONE], [ZERO, ZERO]], [ONE, ONE, ZERO]
        for weights, wanted in (
            ([ONE, (-2, 1), ZERO], True), ([(-1, 3), (2, 3), ZERO], True), ([ONE, (-2, 1), (7, 1)], True),
            ([ZERO, ZERO, ONE], False), ([ZERO, ZERO, ZERO], False), ([ONE, (2, 1), ZERO], False), ([ONE, ZERO, ZERO], False),
            ([ONE, (-2, 1)], False), ([ONE, (-2, 1), ZERO, ZERO], False), ([], False),
        ):
            self.check(rows, targets, ('certificate', weights), wanted)

    def test_every_column_counts(self):
        rows, targets = [[ONE, ONE, ZERO], [ONE, ZERO, ONE]], [ONE, ZERO]
        self.check(rows, targets, ('certificate', [ONE, (-1, 1)]), False)
        self.check([[ONE, ONE, ZERO], [ONE, ONE, ONE]], targets, ('certificate', [ONE, (-1, 1)]), False)
        self.check([[ONE, ONE, ONE], [ONE, ONE, ONE]], targets, ('certificate', [ONE, (-1, 1)]), True)

    def test_weights_are_for_rows_and_values_for_columns(self):
        self.check([[ONE, ONE, ONE]], [ZERO], ('solution', [ONE]), False)
        self.check([[ZERO, ZERO, ZERO]], [ONE], ('certificate', [ONE, ONE, ONE]), False)
        self.check([[ZERO, ZERO, ZERO]], [ONE], ('certificate', [(-3, 7)]), True)
        self.check([[ZERO], [ZERO]], [ONE, ONE], ('certificate', [ONE, (-1, 1)]), False)

    def test_without_rows(self):
        self.check([], [], ('solution', []), True)
        self.check([], [], ('solution', [ZERO]), False)
        self.check([], [], ('solution', [ONE, ONE]), False)
        self.check([], [], ('certificate', []), False)
        self.check([], [], ('certificate', [ONE]), False)

    def test_rows_of_length_zero(self):
        self.check([[], []], [ZERO, ZERO], ('solution', []), True)
        self.check([[], []], [ZERO, ZERO], ('solution', [ZERO]), False)
        self.check([[], []], [ZERO, ONE], ('solution', []), False)
        self.check([[], []], [ZERO, ONE], ('certificate', [(5, 1), (1, 9)]), True)
        self.check([[], []], [ZERO, ONE], ('certificate', [(5, 1), ZERO]), False)
        self.check([[], []], [ONE, (-1, 1)], ('certificate', [ONE, ONE]), False)
        self.check([[], []], [ZERO, ZERO], ('certificate', [ONE, ONE]), False)
        self.check([[], []], [ZERO, ONE], ('certificate', [ONE]), False)

    def test_scaled_and_changed_answers(self):
        source = Source(44)
        for _ in range(60):
            rows, targets = random_equations(source, source.random.randint(1, 6), source.random.randint(1, 6))
            tag, values = solve_linear(rows, targets)
            self.check(rows, targets, (tag, values), True)
            for other in self.changed(values):
                self.check(rows, targets, (tag, other), is_right(rows, targets, (tag, other)))
                swapped = ('solution' if tag == 'certificate' else 'certificate', other)
                self.check(rows, targets, swapped, is_right(rows, targets, swapped))

    def changed(self, values):
        yield values
        for factor in (Fraction(2), Fraction(-1), Fraction(1, 3), Fraction(0)):
            yield [pair_of(factor * as_fraction(one)) for one in values]
        for at in range(len(values)):
            yield [*values[:at], pair_of(as_fraction(values[at]) + Fraction(1, 2)), *values[at + 1:]]
            yield [*values[:at], *values[at + 1:]]
        yield [*values, ZERO]


class ShapeTest(unittest.TestCase):
    def check(self, rows, targets, pos):
        for call in (lambda: solve_linear(rows, targets), lambda: check_solution(rows, targets, ('solution', [])),
                     lambda: check_solution(rows, targets, ('certificate', [ONE]))):
            kept = copy.deepcopy((rows, targets))
            with self.subTest((rows, targets)), self.assertRaises(InvalidShape) as caught:
                call()
            self.assertEqual(caught.exception.pos, pos)
            self.assertEqual((rows, targets), kept)

    def test_rows(self):
        self.check([[ONE], []], [ONE, ONE], 1)
        self.check([[], [ONE]], [ONE, ONE], 1)
        self.check([[ONE], [ONE], [ONE, ONE], []], [ONE] * 4, 2)
        self.check(((ONE, ONE), (ONE, ONE), (ONE, ONE), (ONE,)), (ONE,) * 4, 3)

    def test_rows_come_before_targets(self):
        for many in (0, 1, 3, 9):
            self.check([[ONE], [ONE, ONE]], [ONE] * many, 1)

    def test_targets(self):
        self.check([], [ZERO], 0)
        self.check([[ONE]], [], 1)
        self.check([[ONE]], [ONE, ONE], 1)
        self.check([[], [], []], [ZERO] * 2, 3)
        self.check([[ONE, ONE], [ONE, ZERO]], [ONE] * 3, 2)
        self.check(((ONE,),), (), 1)


if __name__ == "__main__":
    unittest.main()
