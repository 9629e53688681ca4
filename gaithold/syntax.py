"""The canonical text of a term."""

from gaithold.errors import ParseError
from gaithold.rationals import format_fraction, parse_fraction
from gaithold.terms import KEYWORDS, MAX_DEPTH, is_valid_term

LETTERS = "abcdefghijklmnopqrstuvwxyz"
FRACTION_SIGNS = "0123456789/"


def format_delay(amount):
    """Return the text of the delay behind its term."""
    if amount[0] < 0:
        return " - " + format_fraction((-amount[0], amount[1]))
    return " + " + format_fraction(amount)


def format_term(term):
    """Return the canonical text of a term."""
    kind = term[0]
    if kind == "event":
        return term[1]
    if kind == "delay":
        return format_term(term[1]) + format_delay(term[2])
    if kind == "mix":
        parts = [format_fraction(weight) + " " + format_term(part) for weight, part in term[1:]]
    else:
        parts = [format_term(part) for part in term[1:]]
    return kind + "(" + ", ".join(parts) + ")"


def end_of_run(text, start, signs):
    """Return the index behind the longest run of these signs that starts at an index."""
    end = start
    while end < len(text) and text[end] in signs:
        end += 1
    return end


def skip(text, start, wanted):
    """Return the index behind a part that must stand at an index."""
    end = start + len(wanted)
    if text[start:end] != wanted:
        raise ParseError(0)
    return end


def read_fraction(text, start):
    """Return the fraction without a sign that starts at an index, and the index behind it."""
    end = end_of_run(text, start, FRACTION_SIGNS)
    return parse_fraction(text[start:end]), end


def read_delays(text, start, term):
    """Return the term with all delays that follow it at an index, and the index behind them."""
    end = start
    while text[end:end + 3] in (" + ", " - "):
        sign = -1 if text[end + 1] == "-" else 1
        amount, end = read_fraction(text, end + 3)
        term = ("delay", term, (sign * amount[0], amount[1]))
    return term, end


def read_operand(text, start, kind, level):
    """Return the operand of this kind of term that starts at an index, and the index behind it."""
    if kind != "mix":
        return read_term(text, start, level)
    weight, end = read_fraction(text, start)
    part, end = read_term(text, skip(text, end, " "), level)
    return (weight, part), end


def read_operands(text, start, kind, level):
    """Return the term whose operands stand in brackets at an index, and the index behind them."""
    operand, end = read_operand(text, skip(text, start, "("), kind, level)
    operands = [operand]
    while text[end:end + 1] == ",":
        operand, end = read_operand(text, skip(text, end, ", "), kind, level)
        operands.append(operand)
    return (kind, *operands), skip(text, end, ")")


def read_term(text, start, level):
    """Return what is written like a term at an index, and the index behind it."""
    # Without this limit a text of opening brackets would nest as many calls.
    if level > MAX_DEPTH:
        raise ParseError(0)
    end = end_of_run(text, start, LETTERS)
    word = text[start:end]
    if word in KEYWORDS:
        term, end = read_operands(text, end, word, level + 1)
    else:
        term = ("event", word)
    return read_delays(text, end, term)


def parse_term(text):
    """Return the term with this canonical text."""
    term, end = read_term(text, 0, 1)
    if end != len(text) or not is_valid_term(term):
        raise ParseError(0)
    # Whatever else is not canonical differs from the text that is written.
    if format_term(term) != text:
        raise ParseError(0)
    return term
