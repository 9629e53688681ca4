"""Terms over the times of events: their form, their measures and their values."""

from gaithold.errors import UnknownEvent
from gaithold.rationals import ZERO, add, fraction, index_of_max, index_of_min, is_less, multiply, total

MAX_SIZE = 40
MAX_DEPTH = 10
MAX_OPERANDS = 6
MAX_NAME = 6
# The greatest number of 12 digits.
MAX_SIDE = 999999999999
KEYWORDS = ("max", "min", "median", "mix")


def is_valid_name(thing):
    """Return whether a string is a name."""
    if not isinstance(thing, str) or not 1 <= len(thing) <= MAX_NAME:
        return False
    return all(["a" <= letter <= "z" for letter in thing]) and thing not in KEYWORDS


def is_number(thing):
    """Return whether a value is an integer and not a boolean."""
    return isinstance(thing, int) and not isinstance(thing, bool)


def is_term_fraction(thing):
    """Return whether a value is a fraction that a term may contain."""
    if not isinstance(thing, tuple) or len(thing) != 2:
        return False
    num, den = thing
    if not is_number(num) or not is_number(den):
        return False
    return abs(num) <= MAX_SIDE and 1 <= den <= MAX_SIDE and fraction(num, den) == thing


def is_weighted(pair):
    """Return whether a value is a pair whose first element is a positive fraction."""
    if not isinstance(pair, tuple) or len(pair) != 2:
        return False
    return is_term_fraction(pair[0]) and is_less(ZERO, pair[0])


def is_mixture(pairs):
    """Return whether all values are weighted and the weights sum to 1."""
    if not all([is_weighted(pair) for pair in pairs]):
        return False
    return total([pair[0] for pair in pairs]) == (1, 1)


def has_term_form(thing):
    """Return whether a value is a term if what stands for its direct subterms are terms."""
    if not isinstance(thing, tuple) or len(thing) == 0:
        return False
    kind = thing[0]
    many = len(thing) - 1
    if kind == "event":
        return many == 1 and is_valid_name(thing[1])
    if kind == "delay":
        return many == 2 and is_term_fraction(thing[2])
    if kind == "median":
        return many == 3
    if kind == "mix":
        return 1 <= many <= MAX_OPERANDS and is_mixture(thing[1:])
    return kind in ("max", "min") and 1 <= many <= MAX_OPERANDS


def subterms(term):
    """Return the direct subterms of a term in order."""
    kind = term[0]
    if kind == "event":
        return []
    if kind == "delay":
        return [term[1]]
    if kind == "mix":
        return [pair[1] for pair in term[1:]]
    return list(term[1:])


def with_subterms(term, parts):
    """Return the term with other direct subterms."""
    kind = term[0]
    if kind == "event":
        return term
    if kind == "delay":
        return ("delay", parts[0], term[2])
    if kind == "mix":
        parts = [(pair[0], part) for pair, part in zip(term[1:], parts)]
    return (kind, *parts)


def is_valid_term(thing):
    """Return whether a value is a term."""
    # Level by level: the limits end the search before a wide tuple is walked whole.
    level = [thing]
    size = 0
    depth = 0
    while len(level) > 0:
        size += len(level)
        depth += 1
        if size > MAX_SIZE or depth > MAX_DEPTH:
            return False
        if not all([has_term_form(part) for part in level]):
            return False
        level = [part for whole in level for part in subterms(whole)]
    return True


def term_size(term):
    """Return the number of terms in a term, itself included."""
    return 1 + sum([term_size(part) for part in subterms(term)])


def term_depth(term):
    """Return the depth of a term; an event reference has the depth 1."""
    return 1 + max([term_depth(part) for part in subterms(term)], default=0)


def is_small(term):
    """Return whether a term keeps the limits of size and depth."""
    return term_size(term) <= MAX_SIZE and term_depth(term) <= MAX_DEPTH


def event_names(term):
    """Return the names in a term in order of first occurrence, without duplicates."""
    if term[0] == "event":
        return [term[1]]
    names = []
    for part in subterms(term):
        for name in event_names(part):
            if name not in names:
                names.append(name)
    return names


def delays_in(term):
    """Return the amounts of all delays in a term."""
    amounts = [amount for part in subterms(term) for amount in delays_in(part)]
    return [term[2], *amounts] if term[0] == "delay" else amounts


def scale_delays(term, factor):
    """Return the term with all delays multiplied by a fraction."""
    parts = [scale_delays(part, factor) for part in subterms(term)]
    if term[0] == "delay":
        return ("delay", parts[0], multiply(factor, term[2]))
    return with_subterms(term, parts)


def median_of(values):
    """Return the median of three fractions."""
    top = index_of_max(values)
    rest = values[:top] + values[top + 1:]
    return rest[index_of_max(rest)]


def value_of(term, table):
    """Return the value of a term whose names are all in the table."""
    kind = term[0]
    if kind == "event":
        return table[term[1]]
    values = [value_of(part, table) for part in subterms(term)]
    if kind == "delay":
        return add(values[0], term[2])
    if kind == "max":
        return values[index_of_max(values)]
    if kind == "min":
        return values[index_of_min(values)]
    if kind == "median":
        return median_of(values)
    return total([multiply(pair[0], value) for pair, value in zip(term[1:], values)])


def check_names(term, known):
    """Raise UnknownEvent with the first name in a term that a dict or a list does not contain."""
    for name in event_names(term):
        if name not in known:
            raise UnknownEvent(name)


def evaluate(term, table):
    """Return the value of a term under a dict from names to times."""
    check_names(term, table)
    return value_of(term, table)
