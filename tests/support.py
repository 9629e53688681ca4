"""What several tests share: seeded values and a second way to compute."""

import random
from fractions import Fraction

NAMES = ("a", "b", "c", "d", "e", "f")


def pair_of(value):
    return (value.numerator, value.denominator)


def as_fraction(pair):
    return Fraction(pair[0], pair[1])


def is_canonical(pair):
    plain = isinstance(pair, tuple) and len(pair) == 2 and all(type(side) is int for side in pair)
    return plain and pair[1] > 0 and pair_of(Fraction(*pair)) == pair


class Source:
    """A stream of fractions, tables and terms that is the same in every run."""

    def __init__(self, seed):
        self.random = random.Random(seed)

    def integer(self):
        digits = self.random.choice((1, 1, 2, 6, 12, 40, 200))
        return self.random.randint(-(10 ** digits) + 1, 10 ** digits - 1)

    def pair(self):
        return pair_of(Fraction(self.integer(), abs(self.integer()) + 1))

    def short_pair(self):
        return pair_of(Fraction(self.random.randint(-30, 30), self.random.randint(1, 6)))

    def table(self):
        return {name: self.short_pair() for name in NAMES}

    def weights(self, many):
        parts = [self.random.randint(1, 9) for _ in range(many)]
        return [pair_of(Fraction(part, sum(parts))) for part in parts]

    def term(self, depth):
        if depth == 1 or self.random.random() < 0.2:
            return ("event", self.random.choice(NAMES))
        kind = self.random.choice(("delay", "max", "min", "median", "mix"))
        if kind == "delay":
            return (kind, self.term(depth - 1), self.short_pair())
        many = 3 if kind == "median" else self.random.randint(1, 3)
        parts = [self.term(depth - 1) for _ in range(many)]
        return self.join(kind, parts)

    def join(self, kind, parts):
        if kind == "delay":
            return (kind, parts[0], self.random.choice((self.short_pair(), self.term_pair())))
        if kind == "mix":
            return (kind, *zip(self.weights(len(parts)), parts))
        return (kind, *parts)

    def term_pair(self):
        """A fraction with up to 12 digits on each side."""
        top = 10 ** 12 - 1
        return pair_of(Fraction(self.random.randint(-top, top), self.random.randint(1, top)))

    def sized_term(self, size, depth=10):
        """A term of exactly this size and at most this depth, with up to six operands."""
        if size == 1:
            return ("event", self.random.choice(NAMES))
        capacity = sum(6 ** level for level in range(depth - 1))
        counts = [many for many in range(1, 7) if many < size <= 1 + many * capacity]
        many = self.random.choice(counts)
        kinds = ["max", "min", "mix"] + ["delay"] * (many == 1) * 3 + ["median"] * (many == 3)
        parts, left = [], size - 1
        for slots in range(many - 1, -1, -1):
            share = self.random.randint(max(1, left - slots * capacity), min(capacity, left - slots))
            left -= share
            parts.append(self.sized_term(share, depth - 1))
        return self.join(self.random.choice(kinds), parts)

    def rows(self, many, depth):
        """Rows of a system with this many events."""
        names = NAMES[:many]
        return [(name, rename(self.term(depth), names)) for name in names]


def rename(term, names):
    """The term with every event reference turned into one of these names."""
    if term[0] == "event":
        return ("event", names[NAMES.index(term[1]) % len(names)])
    if term[0] == "delay":
        return ("delay", rename(term[1], names), term[2])
    if term[0] == "mix":
        return ("mix", *[(weight, rename(part, names)) for weight, part in term[1:]])
    return (term[0], *[rename(part, names) for part in term[1:]])


def plain_text(term):
    """The text of a term by Python's own fractions, independent of the package."""
    kind = term[0]
    if kind == "event":
        return term[1]
    if kind == "delay":
        amount = as_fraction(term[2])
        return f"{plain_text(term[1])} {'-' if amount < 0 else '+'} {abs(amount)}"
    if kind == "mix":
        parts = [f"{as_fraction(weight)} {plain_text(part)}" for weight, part in term[1:]]
    else:
        parts = [plain_text(part) for part in term[1:]]
    return f"{kind}({', '.join(parts)})"


def plain_value(term, table):
    """The value of a term by Python's own fractions, independent of the package."""
    kind = term[0]
    if kind == "event":
        return as_fraction(table[term[1]])
    if kind == "delay":
        return plain_value(term[1], table) + as_fraction(term[2])
    if kind == "mix":
        return sum(as_fraction(weight) * plain_value(part, table) for weight, part in term[1:])
    values = sorted(plain_value(part, table) for part in term[1:])
    return {"max": values[-1], "min": values[0], "median": values[len(values) // 2]}[kind]
