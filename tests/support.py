"""What several tests share: seeded values and a second way to compute."""

import itertools
import random
from fractions import Fraction

NAMES = ("a", "b", "c", "d", "e", "f")


def pair_of(value):
    return (value.numerator, value.denominator)


def as_fraction(pair):
    return Fraction(pair[0], pair[1])


def is_canonical(pair):
    plain = isinstance(pair, tuple) and len(pair) == 2 and all(type(side) is int for side in pair)
    return plain and pair[1] > 0 and pair_of(Fraction(*pair)) == pair


class Source:
    """A stream of fractions, tables and terms that is the same in every run."""

    def __init__(self, seed):
        self.random = random.Random(seed)

    def integer(self):
        digits = self.random.choice((1, 1, 2, 6, 12, 40, 200))
        return self.random.randint(-(10 ** digits) + 1, 10 ** digits - 1)

    def pair(self):
        return pair_of(Fraction(self.integer(), abs(self.integer()) + 1))

    def short_pair(self):
        return pair_of(Fraction(self.random.randint(-30, 30), self.random.randint(1, 6)))

    def table(self):
        return {name: self.short_pair() for name in NAMES}

    def weights(self, many):
        parts = [self.random.randint(1, 9) for _ in range(many)]
        return [pair_of(Fraction(part, sum(parts))) for part in parts]

    def term(self, depth):
        if depth == 1 or self.random.random() < 0.2:
            return ("event", self.random.choice(NAMES))
        kind = self.random.choice(("delay", "max", "min", "median", "mix"))
        if kind == "delay":
            return (kind, self.term(depth - 1), self.short_pair())
        many = 3 if kind == "median" else self.random.randint(1, 3)
        parts = [self.term(depth - 1) for _ in range(many)]
        return self.join(kind, parts)

    def join(self, kind, parts):
        if kind == "delay":
            return (kind, parts[0], self.random.choice((self.short_pair(), self.term_pair())))
        if kind == "mix":
            return (kind, *zip(self.weights(len(parts)), parts))
        return (kind, *parts)

    def term_pair(self):
        """A fraction with up to 12 digits on each side."""
        top = 10 ** 12 - 1
        return pair_of(Fraction(self.random.randint(-top, top), self.random.randint(1, top)))

    def sized_term(self, size, depth=10):
        """A term of exactly this size and at most this depth, with up to six operands."""
        if size == 1:
            return ("event", self.random.choice(NAMES))
        capacity = sum(6 ** level for level in range(depth - 1))
        counts = [many for many in range(1, 7) if many < size <= 1 + many * capacity]
        many = self.random.choice(counts)
        kinds = ["max", "min", "mix"] + ["delay"] * (many == 1) * 3 + ["median"] * (many == 3)
        parts, left = [], size - 1
        for slots in range(many - 1, -1, -1):
            share = self.random.randint(max(1, left - slots * capacity), min(capacity, left - slots))
            left -= share
            parts.append(self.sized_term(share, depth - 1))
        return self.join(self.random.choice(kinds), parts)

    def rows(self, many, depth):
        """Rows of a system with this many events."""
        names = NAMES[:many]
        return [(name, rename(self.term(depth), names)) for name in names]

    def sized_rows(self, many, size, depth=10):
        """Rows of a system with this many events, whose terms all have this size."""
        names = NAMES[:many]
        return [(name, rename(self.sized_term(size, depth), names)) for name in names]

    def delayed(self, names):
        """An event reference, mostly with a delay."""
        reference = ("event", self.random.choice(names))
        return reference if self.random.random() < 0.2 else ("delay", reference, self.short_pair())

    def choice_rows(self, many, outer, inner=None):
        """Rows in which every term is an outer of delayed events, or an outer of inners of them."""
        names = NAMES[:many]

        def choice(kind, part):
            return (kind, *[part() for _ in range(self.random.randint(1, 3))])

        def leaf():
            return self.delayed(names)

        part = leaf if inner is None else lambda: choice(inner, leaf)
        return [(name, choice(outer, part)) for name in names]


def chain(depth):
    """A term of this depth and size."""
    term = ("event", "a")
    for _ in range(depth - 1):
        term = ("delay", term, (1, 1))
    return term


def wide(size):
    """A term of this size, from 13 to 43, that is 3 deep."""
    parts, left = [], size - 1
    for slots in range(6, 0, -1):
        share = left // slots
        left -= share
        parts.append(("max", *[("event", "a")] * (share - 1)))
    return ("min", *parts)


def rename(term, names):
    """The term with every event reference turned into one of these names."""
    if term[0] == "event":
        return ("event", names[NAMES.index(term[1]) % len(names)])
    if term[0] == "delay":
        return ("delay", rename(term[1], names), term[2])
    if term[0] == "mix":
        return ("mix", *[(weight, rename(part, names)) for weight, part in term[1:]])
    return (term[0], *[rename(part, names) for part in term[1:]])


def subterms_of(term):
    """The direct subterms, independent of the package."""
    if term[0] == "event":
        return []
    if term[0] == "mix":
        return [part for _, part in term[1:]]
    return [term[1]] if term[0] == "delay" else list(term[1:])


def all_subterms(term):
    """The term and all terms in it."""
    return [term] + [inner for part in subterms_of(term) for inner in all_subterms(part)]


def with_parts(term, parts):
    """The term with other direct subterms, independent of the package."""
    if term[0] == "event":
        return term
    if term[0] == "delay":
        return ("delay", parts[0], term[2])
    if term[0] == "mix":
        return ("mix", *[(weight, part) for (weight, _), part in zip(term[1:], parts)])
    return (term[0], *parts)


def restrictions_of(term, lower=True):
    """Every term that a restriction may have in place of this one."""
    chosen, kept = ("max", "min") if lower else ("min", "max")
    options = [restrictions_of(part, lower) for part in subterms_of(term)]
    if term[0] == chosen:
        return [one for option in options for one in option]
    if term[0] == "median":
        return [(kept, *both) for pair in itertools.combinations(options, 2) for both in itertools.product(*pair)]
    return [with_parts(term, parts) for parts in itertools.product(*options)]


def selectable_lines(term, table):
    """Every line that some selection of operands gives, as pairs of Python's own fractions."""
    if term[0] == "event":
        return {tuple(as_fraction(one) for one in table[term[1]])}
    if term[0] == "delay":
        return {(offset + as_fraction(term[2]), rate) for offset, rate in selectable_lines(term[1], table)}
    if term[0] != "mix":
        return set().union(*[selectable_lines(part, table) for part in term[1:]])
    weights = [as_fraction(weight) for weight, _ in term[1:]]
    choices = itertools.product(*[selectable_lines(part, table) for _, part in term[1:]])
    return {tuple(sum(w * line[at] for w, line in zip(weights, lines)) for at in range(2)) for lines in choices}


def crossings(lines, since):
    found = {(other[0] - one[0]) / (one[1] - other[1]) for one, other in itertools.permutations(lines, 2) if one[1] != other[1]}
    return sorted(instant for instant in found if instant >= since)


def plain_text(term):
    """The text of a term by Python's own fractions, independent of the package."""
    kind = term[0]
    if kind == "event":
        return term[1]
    if kind == "delay":
        amount = as_fraction(term[2])
        return f"{plain_text(term[1])} {'-' if amount < 0 else '+'} {abs(amount)}"
    if kind == "mix":
        parts = [f"{as_fraction(weight)} {plain_text(part)}" for weight, part in term[1:]]
    else:
        parts = [plain_text(part) for part in term[1:]]
    return f"{kind}({', '.join(parts)})"


def plain_value(term, table):
    """The value of a term by Python's own fractions, independent of the package."""
    kind = term[0]
    if kind == "event":
        return as_fraction(table[term[1]])
    if kind == "delay":
        return plain_value(term[1], table) + as_fraction(term[2])
    if kind == "mix":
        return sum(as_fraction(weight) * plain_value(part, table) for weight, part in term[1:])
    values = sorted(plain_value(part, table) for part in term[1:])
    return {"max": values[-1], "min": values[0], "median": values[len(values) // 2]}[kind]


def plain_round(rows, times):
    """The times one round later by Python's own fractions, independent of the package."""
    table = dict(zip([name for name, _ in rows], times))
    return [pair_of(plain_value(term, table)) for _, term in rows]


def plain_rounds(rows, times, rounds):
    """The times after some rounds by Python's own fractions, independent of the package."""
    for _ in range(rounds):
        times = plain_round(rows, times)
    return list(times)


def line_at(times, rates, instant):
    """The times of the lines at an instant."""
    return [pair_of(as_fraction(time) + instant * as_fraction(rate)) for time, rate in zip(times, rates)]


def follows_at(rows, times, rates, instant):
    """Whether a round goes along the lines at an instant."""
    return plain_round(rows, line_at(times, rates, instant)) == line_at(times, rates, instant + 1)


def turning_points(rows, times, rates, since):
    """Every instant from since on at which a term of the rows may change its line, for small terms."""
    table = dict(zip([name for name, _ in rows], zip(times, rates)))
    inner = [part for _, term in rows for part in all_subterms(term)]
    return sorted({point for part in inner for point in crossings(selectable_lines(part, table), since)})


def follows_from(rows, times, rates, since):
    """Whether a round goes along the lines at every instant from since on, for small terms."""
    points = sorted({Fraction(since), *turning_points(rows, times, rates, since)})
    between = [(one + other) / 2 for one, other in zip(points, points[1:])]
    return all(follows_at(rows, times, rates, instant) for instant in points + between + [points[-1] + 1, points[-1] + 2])


def distance_of(one, other):
    """The greatest absolute difference by Python's own fractions."""
    return max(abs(as_fraction(left) - as_fraction(right)) for left, right in zip(one, other))
