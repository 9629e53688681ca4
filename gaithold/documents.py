"""The texts of systems and workspaces."""

from gaithold.errors import GaitError, NotFound, ParseError
from gaithold.rationals import format_fraction, parse_fraction
from gaithold.syntax import parse_term
from gaithold.systems import MAX_EVENTS, EventSystem
from gaithold.terms import is_valid_name
from gaithold.workspace import Workspace, add_system, start_run, with_run

SYSTEM_START = "system "
RUN_START = "run "


def parse_row(line):
    """Return the name and the term of a canonical row."""
    name, colon, text = line.partition(": ")
    if colon == "" or not is_valid_name(name):
        raise ParseError(0)
    return name, parse_term(text)


def parse_system(text):
    """Return the system with this text."""
    # Behind the last line feed stands the last part, which is empty in a canonical text.
    *lines, rest = text.split("\n")
    rows = []
    for at, line in enumerate(lines):
        if at == MAX_EVENTS:
            raise ParseError(at)
        try:
            rows.append(parse_row(line))
        except ParseError:
            raise ParseError(at) from None
    if rest != "":
        raise ParseError(len(rows))
    try:
        return EventSystem(rows)
    except (GaitError, NotFound):
        raise ParseError(len(rows)) from None


def format_run(name, run):
    """Return the row of a run."""
    system, times, rounds, shifted = run
    numbers = [format_fraction(one) for one in [shifted, *times]]
    return RUN_START + " ".join([name, system, str(rounds), *numbers]) + "\n"


def format_workspace(workspace):
    """Return the canonical text of a workspace."""
    systems = [SYSTEM_START + name + "\n" + str(workspace.system(name)) for name in workspace.names()]
    runs = [format_run(name, workspace.run_state(name)) for name in workspace.runs()]
    return "".join(systems + runs)


def starts_block(line):
    """Return whether a block starts with this row."""
    return line.startswith(SYSTEM_START) or line.startswith(RUN_START)


def split_blocks(lines):
    """Return the blocks as pairs of the index of their first row and of their rows."""
    blocks = []
    for at, line in enumerate(lines):
        if len(blocks) == 0 or starts_block(line):
            blocks.append((at, [line]))
        else:
            blocks[-1][1].append(line)
    return blocks


def check_last(name, known):
    """Raise ParseError unless the name is behind all names of a dict."""
    if any([name <= other for other in known]):
        raise ParseError(0)


def parse_natural(text):
    """Return the natural number with this canonical text."""
    num, den = parse_fraction(text)
    if num < 0 or den != 1:
        raise ParseError(0)
    return num


def parse_positive(text):
    """Return the fraction, not negative, with this canonical text."""
    value = parse_fraction(text)
    if value[0] < 0:
        raise ParseError(0)
    return value


def add_system_block(frame, lines):
    """Return the frame with the system of a block."""
    name = lines[0].removeprefix(SYSTEM_START)
    check_last(name, frame[0])
    if len(frame[1]) > 0:
        raise ParseError(0)
    return add_system(frame, name, [parse_row(line) for line in lines[1:]])


def add_run_block(frame, lines):
    """Return the frame with the run of a block."""
    fields = lines[0].split(" ")
    if len(lines) > 1 or len(fields) < 5:
        raise ParseError(0)
    start, name, system, rounds, shifted, *texts = fields
    check_last(name, frame[1])
    times = [parse_fraction(text) for text in texts]
    started = start_run(frame, name, system, times)
    return with_run(started, name, system, (tuple(times), parse_natural(rounds), parse_positive(shifted)))


def add_block(frame, lines):
    """Return the frame with the system or the run of a block."""
    if lines[0].startswith(SYSTEM_START):
        return add_system_block(frame, lines)
    if lines[0].startswith(RUN_START):
        return add_run_block(frame, lines)
    raise ParseError(0)


def parse_workspace(text):
    """Return the workspace with this text."""
    *lines, rest = text.split("\n")
    blocks = split_blocks(lines if rest == "" else [*lines, rest])
    space = Workspace()
    for start, block in blocks:
        try:
            space.frame = add_block(space.frame, block)
        except (GaitError, NotFound):
            raise ParseError(start) from None
    if rest != "":
        raise ParseError(blocks[-1][0])
    return space
