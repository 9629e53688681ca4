"""The value of a term along a linear input, as pieces (since, offset, rate)."""

from gaithold.rationals import ZERO, add, divide, is_less, multiply, subtract
from gaithold.terms import check_names, subterms


def value_at(line, instant):
    """Return the value of a line (offset, rate) at an instant."""
    return add(line[0], multiply(instant, line[1]))


def join_equal(pieces):
    """Return the pieces without those that continue the line of the piece before."""
    joined = [pieces[0]]
    for piece in pieces[1:]:
        if piece[1:] != joined[-1][1:]:
            joined.append(piece)
    return joined


def scale_pieces(pieces, factor):
    """Return the pieces of the product with a fraction."""
    return [(since, multiply(factor, offset), multiply(factor, rate)) for since, offset, rate in pieces]


def end_of_piece(pieces, at):
    """Return the start of the piece behind an index, or None if there is none."""
    return pieces[at + 1][0] if at + 1 < len(pieces) else None


def earlier(one, other):
    """Return the earlier one of two instants, where None means never."""
    if one is None:
        return other
    if other is None or is_less(one, other):
        return one
    return other


def overlay(one, other):
    """Return rows (start, end, line, other line) of two lists of pieces, cut at the starts of both."""
    rows = []
    left = right = 0
    start = one[0][0]
    while start is not None:
        end = earlier(end_of_piece(one, left), end_of_piece(other, right))
        rows.append((start, end, one[left][1:], other[right][1:]))
        if end_of_piece(one, left) == end:
            left += 1
        if end_of_piece(other, right) == end:
            right += 1
        start = end
    return rows


def add_pieces(one, other):
    """Return the pieces of the sum."""
    return join_equal([
        (start, add(line[0], second[0]), add(line[1], second[1])) for start, end, line, second in overlay(one, other)])


def higher_line(start, end, line, other):
    """Return the pieces of the greater one of two lines from start to end, where None means never."""
    gap = subtract(value_at(line, start), value_at(other, start))
    if is_less(gap, ZERO):
        return higher_line(start, end, other, line)
    closing = subtract(other[1], line[1])
    if not is_less(ZERO, closing):
        return [(start, *line)]
    if gap == ZERO:
        return [(start, *other)]
    crossing = add(start, divide(gap, closing))
    if end is None or is_less(crossing, end):
        return [(start, *line), (crossing, *other)]
    return [(start, *line)]


def max_pieces(one, other):
    """Return the pieces of the greater value."""
    return join_equal([
        piece for start, end, line, second in overlay(one, other) for piece in higher_line(start, end, line, second)])


def min_pieces(one, other):
    """Return the pieces of the lesser value."""
    # The lesser value is the negative of the greater negative.
    mirrored = max_pieces(scale_pieces(one, (-1, 1)), scale_pieces(other, (-1, 1)))
    return scale_pieces(mirrored, (-1, 1))


def median_pieces(one, other, third):
    """Return the pieces of the median."""
    return max_pieces(min_pieces(one, other), min_pieces(max_pieces(one, other), third))


MERGES = {"max": max_pieces, "min": min_pieces, "mix": add_pieces}


def combine(kind, operands):
    """Return the pieces of the greatest value, of the least value or of the sum."""
    merge = MERGES[kind]
    result = operands[0]
    for operand in operands[1:]:
        result = merge(result, operand)
    return result


def pieces_of(term, table, since):
    """Return the pieces of a term whose names are all in the table."""
    kind = term[0]
    if kind == "event":
        offset, rate = table[term[1]]
        return [(since, offset, rate)]
    operands = [pieces_of(part, table, since) for part in subterms(term)]
    if kind == "delay":
        return [(start, add(offset, term[2]), rate) for start, offset, rate in operands[0]]
    if kind == "median":
        return median_pieces(*operands)
    if kind == "mix":
        operands = [scale_pieces(pieces, pair[0]) for pair, pieces in zip(term[1:], operands)]
    return combine(kind, operands)


def trace(term, table, *, since=ZERO):
    """Return the pieces of a term from an instant on, under a dict from names to pairs (offset, rate)."""
    check_names(term, table)
    return pieces_of(term, table, since)
