"""Linear equations over fractions, with a certificate where there is no solution."""

from gaithold.errors import InvalidShape
from gaithold.rationals import ZERO, common_denominator, fraction


def check_shape(rows, targets):
    """Raise InvalidShape if the lengths of rows and targets do not fit."""
    for at, row in enumerate(rows):
        if len(row) != len(rows[0]):
            raise InvalidShape(at)
    if len(targets) != len(rows):
        raise InvalidShape(len(rows))


def columns_of(rows):
    """Return the columns of rows of equal length; without rows there are none."""
    return [list(column) for column in zip(*rows)]


def as_integers(row):
    """Return the fractions times the least positive integer that makes all of them integers."""
    scale = common_denominator(row)
    return [num * (scale // den) for num, den in row]


def clear_column(row, pivot_row, column, last_pivot):
    """Return the row with zero in the column of a pivot."""
    factor = row[column]
    pivot = pivot_row[column]
    # The division is exact, because every number of these rows is a determinant (Bareiss).
    return [(pivot * one - factor * other) // last_pivot for one, other in zip(row, pivot_row)]


def first_nonzero(row):
    """Return the first index of an integer that is not zero, or None if all are zero."""
    for at, one in enumerate(row):
        if one != 0:
            return at
    return None


def eliminate(rows, width):
    """Return the pivot columns, their rows and the rows that have only zeros before their target.

    Integers instead of fractions: reducing fractions at every step takes most of the time.
    """
    columns = []
    done = []
    rest = rows
    last_pivot = 1
    for column in range(width):
        at = first_nonzero([row[column] for row in rest])
        if at is not None:
            pivot_row = rest[at]
            rest = rest[:at] + rest[at + 1:]
            done = [clear_column(row, pivot_row, column, last_pivot) for row in done] + [pivot_row]
            rest = [clear_column(row, pivot_row, column, last_pivot) for row in rest]
            last_pivot = pivot_row[column]
            columns.append(column)
    return columns, done, rest


def solution_of(rows, width):
    """Return a solution of rows of integers (coefficients and then the target), or None if there is none."""
    columns, done, rest = eliminate(rows, width)
    if any([row[-1] != 0 for row in rest]):
        return None
    # Unknowns without a pivot are free.
    values = [ZERO] * width
    for column, row in zip(columns, done):
        values[column] = fraction(row[-1], row[column])
    return values


def solve_linear(rows, targets):
    """Return ('solution', list) or ('certificate', list)."""
    check_shape(rows, targets)
    columns = columns_of(rows)
    values = solution_of([as_integers([*row, target]) for row, target in zip(rows, targets)], len(columns))
    if values is not None:
        return ("solution", values)
    # Equations without a solution always have weights under which the rows cancel and the targets sum to 1.
    cancelled = [as_integers([*column, ZERO]) for column in columns]
    return ("certificate", solution_of([*cancelled, as_integers([*targets, (1, 1)])], len(rows)))


def cancels(row, factors):
    """Return whether the products of fractions and integers sum to zero."""
    return sum([one * factor for one, factor in zip(as_integers(row), factors)]) == 0


def is_solution(rows, targets, values):
    """Return whether the values satisfy every equation."""
    if len(values) != len(columns_of(rows)):
        return False
    # Each equation is the row minus the target.
    factors = as_integers([*values, (-1, 1)])
    return all([cancels([*row, target], factors) for row, target in zip(rows, targets)])


def is_certificate(rows, targets, weights):
    """Return whether the weighted rows sum to zero in every column and the weighted targets do not."""
    if len(weights) != len(rows):
        return False
    factors = as_integers(weights)
    return all([cancels(column, factors) for column in columns_of(rows)]) and not cancels(targets, factors)


def check_solution(rows, targets, answer):
    """Return whether a pair ('solution', list) or ('certificate', list) is correct."""
    check_shape(rows, targets)
    tag, values = answer
    if tag == "solution":
        return is_solution(rows, targets, values)
    return is_certificate(rows, targets, values)
