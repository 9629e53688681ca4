import re
import unittest
from fractions import Fraction

from samples import random_systems, system_of
from support import NAMES, Source, chain, is_canonical, pair_of, plain_text, wide

from gaithold.documents import format_workspace, parse_system, parse_workspace
from gaithold.errors import CapacityExceeded, ParseError
from gaithold.regimes import find_regime
from gaithold.syntax import format_term, parse_term
from gaithold.systems import EventSystem
from gaithold.terms import is_valid_name
from gaithold.workspace import Workspace

STEP = 'system w\na: a + 1\n'
LONG = 10 ** 12 - 1


class Case(unittest.TestCase):
    def wrong(self, parse, text, pos):
        with self.assertRaises(ParseError, msg=text) as caught:
            parse(text)
        self.assertEqual(caught.exception.pos, pos, text)

    def wrong_system(self, text, pos):
        self.wrong(parse_system, text, pos)

    def wrong_space(self, text, pos):
        self.wrong(parse_workspace, text, pos)


class ParseSystemTest(Case):
    def test_examples(self):
        self.assertEqual(parse_system('a: max(a + 1, b)\nb: a\n').names(), ['a', 'b'])
        self.wrong_system('a: a\nb: c\n', 2)

    def test_texts_of_systems(self):
        for _, system in random_systems(130, 120):
            for text in (str(system), ''.join(f'{name}: {plain_text(term)}\n' for name, term in system.rows())):
                parsed = parse_system(text)
                self.assertIsInstance(parsed, EventSystem)
                self.assertEqual(parsed, system)
                self.assertEqual(parse_system(text=text), system)

    def test_first_row_that_is_not_canonical(self):
        good = 'a: a\n'
        for row in (
            '', ' ', 'b', 'b:', 'b: ', 'b:b', 'b:  b', ' b: b', 'b : b', 'b: b ', 'b: B', 'B: b', 'max: b', 'abcdefg: b', ': b',
            'b: max(a,b)', 'b: a + 01', 'b: a + 2/4', 'b: a + -1', 'b: mix(1/2 a)', 'b: a: a', 'b: median(a, a)', 'b1: a', 'system w',
            'run r w 0 0 0', 'b: ' + 'a' * 7, 'b: a' + ' + 1' * 10, 'b: a + 1000000000000', 'b: a + 1/1000000000000',
        ):
            self.wrong_system(row + '\n', 0)
            self.wrong_system(good + row + '\n', 1)
            self.wrong_system(good + row + '\n' + good + row, 1)
            self.wrong_system(good + good + row + '\n' + row + '\n', 2)

    def test_seventh_row(self):
        rows = [f'{name}: {name}\n' for name in 'abcdefgh']
        self.assertEqual(parse_system(''.join(rows[:6])).names(), list('abcdef'))
        self.wrong_system(''.join(rows[:7]), 6)
        self.wrong_system(''.join(rows), 6)
        self.wrong_system(''.join(rows[:6]) + 'bad\n', 6)
        self.wrong_system(''.join(rows[:6]) + rows[6][:-1], 6)
        self.wrong_system(''.join(rows[:7]) + 'bad\n', 6)
        self.wrong_system(''.join(rows[:5]) + 'bad\n' + rows[5] + rows[6], 5)

    def test_no_row_or_no_last_line_feed(self):
        self.wrong_system('', 0)
        self.wrong_system('\n', 0)
        for text in ('a: a', 'bad', ' '):
            self.wrong_system(text, 0)
            self.wrong_system('a: a\n' + text, 1)
            self.wrong_system('a: a\nb: b\n' + text, 2)
        self.wrong_system('a: a\n\n', 1)

    def test_rows_that_a_system_rejects(self):
        self.wrong_system('a: b\n', 1)
        self.wrong_system('a: a\na: a\n', 2)
        self.wrong_system('a: a\nb: b\nc: max(a, d)\n', 3)
        self.wrong_system('a: a\nb: a\nb: b\nc: z', 3)

    def test_limits_of_terms(self):
        nines = '999999999999'
        for text in (f'a + {nines}', f'a - {nines}/999999999998', f'mix(1/{nines} a, 999999999998/{nines} a)', format_term(chain(10)),
                     format_term(wide(40)), 'max(a, a, a, a, a, a)', 'min(a, a, a, a, a, a)'):
            self.assertEqual(parse_system(f'a: {text}\n').terms(), [parse_term(text)])
            self.assertEqual(parse_workspace(f'system w\na: {text}\n').system('w').terms(), [parse_term(text)])
        for text in ('a + 1000000000000', 'a - 1/1000000000000', 'a + 1000000000001/3', 'mix(1/1000000000001 a, 1000000000000/1000000000001 a)',
                     format_term(chain(11)), format_term(wide(41)), 'max(a, a, a, a, a, a, a)', 'min(a, a, a, a, a, a, a)',
                     'mix(1/7 a, 1/7 a, 1/7 a, 1/7 a, 1/7 a, 1/7 a, 1/7 a)', 'median(a, a, a, a)', 'max()'):
            self.wrong(parse_term, text, 0)
            self.wrong_system(f'b: b\na: {text}\n', 1)
            self.wrong_space(f'system v\na: a\nsystem w\nb: b\na: {text}\n', 2)


def random_space(source):
    """A workspace with up to six systems and six runs."""
    space = Workspace()
    names = sorted(source.random.sample(('v', 'w', 'run', 'system', 'abcdef', 'z', 'ab'), source.random.randint(0, 6)))
    for name in names:
        space.apply(('system', name, source.rows(source.random.randint(1, 6), 2)))
    for name in source.random.sample(('r', 's', 'run', 'system', 'zzzzzz', 'a', 'b'), source.random.randint(0, 6) if names else 0):
        system = source.random.choice(names)
        events = space.system(system).names()
        space.apply(('start', name, system, [source.short_pair() for _ in events]))
        space.apply_all([('advance', name, source.random.randint(0, 12)), ('shift', name, events[0], source.short_pair())])
    return space


def plain_space_text(space):
    """The text of a workspace by Python's own fractions."""
    rows = []
    for name in sorted(space.names()):
        rows += [f'system {name}'] + [f'{event}: {plain_text(term)}' for event, term in space.system(name).rows()]
    for name in sorted(space.runs()):
        system, times, rounds, shift = space.run_state(name)
        rows.append(' '.join(['run', name, system, str(rounds), str(Fraction(*shift)), *[str(Fraction(*time)) for time in times]]))
    return ''.join(row + '\n' for row in rows)


def plain_fraction(text):
    """The fraction with this canonical text of at most 30 digits on each side, or None."""
    if not re.fullmatch('-?[0-9]{1,30}(/[0-9]{1,30})?', text) or re.fullmatch('.*/0+', text):
        return None
    value = Fraction(text)
    return value if str(value) == text else None


def system_of_block(text):
    """The system that a block describes, or None."""
    try:
        return parse_system(text.partition('\n')[2])
    except ParseError:
        return None


def expected(text):
    """The systems and runs that a text describes, or the position of the error, by other means than the package."""
    starts = [at for at, row in enumerate(text.split('\n')) if row.startswith(('system ', 'run '))]
    rows = text.split('\n')
    whole = rows[-1] == ''
    rows = rows[:-1] if whole else rows
    if rows and starts[:1] != [0]:
        return 0
    systems, runs = {}, {}
    for start, end in zip(starts, [*starts[1:], len(rows)]):
        block = rows[start:end]
        valid = add_system if block[0].startswith('system ') else add_run
        if not valid(systems, runs, block):
            return start
    return (systems, runs) if whole else (starts[-1] if starts else 0)


def add_system(systems, runs, block):
    name = block[0][len('system '):]
    system = system_of_block('\n'.join(block) + '\n')
    if runs or system is None or not is_valid_name(name) or len(systems) == 6 or not all(name > one for one in systems):
        return False
    systems[name] = system
    return True


def add_run(systems, runs, block):
    fields = block[0].split(' ')
    if len(block) > 1 or len(fields) < 5 or not is_valid_name(fields[1]) or len(runs) == 6:
        return False
    _, name, system, *texts = fields
    numbers = [plain_fraction(one) for one in texts]
    if None in numbers or numbers[0].denominator > 1 or min(numbers[:2]) < 0 or not all(name > one for one in runs):
        return False
    if system not in systems or len(systems[system]) != len(numbers) - 2:
        return False
    runs[name] = (system, [pair_of(one) for one in numbers[2:]], numbers[0].numerator, pair_of(numbers[1]))
    return True


class FormatWorkspaceTest(Case):
    def test_examples(self):
        space = parse_workspace('system w\na: a + 1\nrun r w 2 0 5/2\n')
        wanted = [['w'], ('w', [(5, 2)], 2, (0, 1)), 'system w\na: a + 1\nrun r w 2 0 5/2\n']
        self.assertEqual([space.names(), space.run_state('r'), format_workspace(space)], wanted)
        self.wrong_space('system w\na: a + 1\nrun r x 2 0 5/2\n', 2)

    def test_empty(self):
        self.assertEqual(format_workspace(Workspace()), '')
        self.assertEqual(parse_workspace(''), Workspace())
        self.assertIsInstance(parse_workspace(text=''), Workspace)

    def test_canonical_texts(self):
        source = Source(131)
        for _ in range(80):
            space = random_space(source)
            for name in space.names()[:2]:
                space.regime_of(name)
            before = (space.history(), space.cached(), space.computations())
            text = format_workspace(space)
            self.assertEqual(text, plain_space_text(space))
            self.assertEqual(format_workspace(workspace=space), text)
            self.assertEqual((space.history(), space.cached(), space.computations()), before)
            parsed = parse_workspace(text)
            self.assertTrue(parsed == space)
            self.assertEqual((parsed.history(), parsed.cached(), parsed.computations()), ((0, 0), [], 0))
            self.assertEqual(format_workspace(parsed), text)

    def test_order_of_names(self):
        space = Workspace()
        for name in ('z', 'ab', 'b', 'a'):
            space.apply(('system', name, [('a', ('event', 'a'))]))
            space.apply(('start', name, 'z', [(1, 1)]))
        text = format_workspace(space)
        self.assertEqual(re.findall('^system (.*)$', text, re.M), ['a', 'ab', 'b', 'z'])
        self.assertEqual(re.findall('^run ([a-z]+)', text, re.M), ['a', 'ab', 'b', 'z'])

    def test_order_of_steps_does_not_matter(self):
        one, other = Workspace(), Workspace()
        commands = [('system', 'w', system_of('a').rows()), ('system', 'v', system_of('a + 1').rows())]
        one.apply_all(commands)
        other.apply_all(commands[::-1])
        self.assertEqual(format_workspace(one), format_workspace(other))

    def test_same_regimes_after_parsing(self):
        source = Source(132)
        for _ in range(15):
            space = random_space(source)
            parsed = parse_workspace(format_workspace(space))
            for name in space.names():
                self.assertEqual(parsed.regime_of(name), space.regime_of(name))
                self.assertEqual(parsed.regime_of(name), find_regime(space.system(name)))

    def test_parsed_runs_go_on(self):
        space = parse_workspace('system w\na: a + 1\nrun r w 7 1/2 5/2\n')
        space.apply(('advance', 'r', 3))
        space.apply(('shift', 'r', 'a', (-1, 4)))
        self.assertEqual(space.run_state('r'), ('w', [(21, 4)], 10, (3, 4)))
        space.undo()
        space.undo()
        self.assertEqual(space.run_state('r'), ('w', [(5, 2)], 7, (1, 2)))
        self.assertEqual(space.history(), (0, 2))

    def test_long_numbers_are_written_but_not_parsed(self):
        top = 10 ** 30 - 1
        numbers = (
            ((top, 1), True), ((-top, top - 1), True), ((1, top), True), ((top + 1, 1), False), ((1, top + 1), False),
            ((-top - 1, 7), False), ((10 ** 3999, 3), False))
        for number, fits in numbers:
            space = parse_workspace(STEP)
            space.apply(('start', 'r', 'w', [number]))
            self.check_fits(space, fits)
            space = parse_workspace(STEP + 'run r w 0 0 0\n')
            space.apply(('shift', 'r', 'a', number))
            self.check_fits(space, fits)
        space = parse_workspace(f'{STEP}run r w {top} 0 0\n')
        space.apply(('advance', 'r', 1))
        self.check_fits(space, False)

    def check_fits(self, space, fits):
        text = format_workspace(space)
        self.assertEqual(text, plain_space_text(space))
        if fits:
            self.assertEqual(parse_workspace(text), space)
        else:
            self.wrong_space(text, 2)


class ParseWorkspaceTest(Case):
    def check(self, text):
        wanted = expected(text)
        if isinstance(wanted, int):
            self.wrong_space(text, wanted)
        else:
            space = parse_workspace(text)
            systems, runs = wanted
            self.assertEqual({name: space.system(name) for name in space.names()}, systems)
            self.assertEqual({name: space.run_state(name) for name in space.runs()}, runs)
            self.assertTrue(all(is_canonical(time) for name in runs for time in space.run_state(name)[1]))
            self.assertEqual(format_workspace(space), text)
        return wanted

    def edits(self, source, text):
        """The text with rows removed, repeated, swapped, inserted or edited."""
        rows = text.split('\n')[:-1]
        rows = rows or ['system w', 'a: a']
        at, other = source.random.randrange(len(rows)), source.random.randrange(len(rows))
        extra = source.random.choice((
            '', ' ', 'system w', 'system', 'run', 'system ', 'run ', 'a: a', 'a: b', 'run r w 0 0 0', 'run r w 0 0', 'run q v 1 0 0 0',
            'system max', 'system a b', 'b: max(a, b)', 'run  r w 0 0 0', 'systemx', 'run: a', 'system: system'))
        yield rows[:at] + rows[at + 1:]
        yield rows[:at] + [rows[other]] + rows[at:]
        swapped = list(rows)
        swapped[at], swapped[other] = swapped[other], swapped[at]
        yield swapped
        yield rows[:at] + [extra] + rows[at:]
        yield rows + [extra]
        for _ in range(3):
            row = rows[at]
            place = source.random.randrange(len(row) + 1)
            letter = source.random.choice('abw rs 0/1-+:(),')
            edited = source.random.choice((row[:place] + letter + row[place:], row[:place] + row[place + 1:], row[:place] + letter + row[place + 1:]))
            yield rows[:at] + [edited] + rows[at + 1:]

    def test_other_texts(self):
        source = Source(133)
        seen = {True: 0, False: 0}
        for _ in range(150):
            text = format_workspace(random_space(source))
            self.check(text)
            for rows in self.edits(source, text):
                for changed in ('\n'.join(rows) + '\n', '\n'.join(rows)):
                    seen[isinstance(self.check(changed), int)] += 1
            self.check(text[:source.random.randrange(len(text) + 1)])
        self.assertGreater(min(seen.values()), 100)

    def test_rows_before_the_first_block(self):
        for row in ('a: a', '', 'systems', 'runs', 'system', 'run', ' system w'):
            self.wrong_space(row + '\n' + STEP, 0)
            self.wrong_space(row + '\n' + row + '\n' + STEP, 0)
            self.wrong_space(row + '\n', 0)
        for row in ('a', 'system', 'run', ' '):
            self.wrong_space(row, 0)

    def test_rows_between_and_after_the_blocks(self):
        two = 'system v\na: a\n'
        for row in ('', ' ', 'x', 'a: a', 'b: x', 'systemx', 'run', 'run: x', 'b:b'):
            self.wrong_space(two + row + '\n' + STEP, 0)
            self.wrong_space(two + STEP + row + '\n', 2)
            self.wrong_space(two + STEP + 'run r w 0 0 0\n' + row + '\n', 4)
            self.wrong_space(two + STEP + 'run r w 0 0 0\n' + row + '\nrun s w 0 0 0\n', 4)
        self.assertEqual(len(parse_workspace(two + 'b: b\n' + STEP).system('v')), 2)

    def test_missing_last_line_feed(self):
        runs = 'run r w 0 0 0\nrun s w 0 0 0\n'
        for text, pos in ((STEP, 0), (STEP + runs, 3), (STEP + 'system x\na: a\nb: b\n', 2), (STEP + runs[:14], 2)):
            self.assertIsInstance(parse_workspace(text), Workspace)
            self.wrong_space(text[:-1], pos)
        for tail, pos in (('run', 3), ('run ', 4), ('run t w 0 0 0', 4), ('x', 3), ('system y', 4), ('run t w 0 0', 4)):
            self.wrong_space(STEP + runs + tail, pos)
        for tail in ('b: b', 'b', ' ', 'system'):
            self.wrong_space(STEP + tail, 0)
        self.wrong_space('system w', 0)

    def test_first_invalid_block_counts(self):
        self.wrong_space('system w\na: b\nsystem v\na: (\n', 0)
        self.wrong_space(STEP + 'run r x 0 0 0\nrun q w 0 0 0\n', 2)
        self.wrong_space(STEP + 'run r x 0 0 0', 2)
        self.wrong_space(STEP + 'run r w 0 0 0\nsystem x\na: a\n', 3)
        self.wrong_space('run r w 0 0 0\n' + STEP, 0)

    def test_order_of_blocks(self):
        self.wrong_space(STEP + 'system v\na: a\n', 2)
        self.wrong_space(STEP + STEP, 2)
        self.wrong_space(STEP + 'run s w 0 0 0\nrun r w 0 0 0\n', 3)
        self.wrong_space(STEP + 'run s w 0 0 0\nrun s w 0 0 0\n', 3)
        self.assertEqual(parse_workspace('system a\na: a\nsystem ab\na: a\nsystem b\na: a\n').names(), ['a', 'ab', 'b'])

    def test_blocks_of_systems(self):
        for head in ('system ', 'system max', 'system W', 'system w ', 'system  w', 'system abcdefg', 'system w w', 'system w1'):
            self.wrong_space(head + '\na: a\n', 0)
            self.wrong_space('system a\na: a\n' + head + '\na: a\n', 2)
        for rows in ('', 'a: b\n', 'a: a\na: a\n', 'a: a\nb:b\n', ''.join(f'{name}: a\n' for name in 'abcdefg')):
            self.wrong_space('system w\n' + rows, 0)
        self.assertEqual(len(parse_workspace('system w\n' + ''.join(f'{name}: a\n' for name in NAMES)).system('w')), 6)
        self.assertEqual(parse_workspace('system system\nsystem: run\nrun: system\n').system('system').names(), ['system', 'run'])

    def test_rows_of_runs(self):
        good = 'run r w 2 0 5/2'
        self.assertEqual(parse_workspace(STEP + good + '\n').runs(), ['r'])
        for row in (
            'run r w 2 0', 'run r w 2 0 5/2 1', 'run r w 2', 'run r w', 'run r', 'run ', 'run  r w 2 0 5/2', 'run r w 2 0  5/2', good + ' ',
            'run R w 2 0 5/2', 'run max w 2 0 5/2', 'run r v 2 0 5/2', 'run r w -2 0 5/2', 'run r w 02 0 5/2', 'run r w 2/1 0 5/2',
            'run r w 3/2 0 5/2', 'run r w 2 -1 5/2', 'run r w 2 -1/2 5/2', 'run r w 2 0/1 5/2', 'run r w 2 -0 5/2', 'run r w 2 0 10/4',
            'run r w 2 0 5/0', 'run r w 2 0 +5', 'run r w 2 0 5/-2', 'run r w 2 0 -0', 'run r w a 0 5/2', 'run r w 2 b 5/2', 'run r w 2 0 c',
            'run r w -0 0 0', 'run r w 2 0 05', 'run r w 2 0 5/02', 'run r w 2.0 0 1',
        ):
            self.wrong_space(STEP + row + '\n', 2)
            self.wrong_space(STEP + 'run a w 0 0 0\n' + row + '\n', 3)
        state = parse_workspace(STEP + 'run r w 0 1/3 -5/2\n').run_state('r')
        self.assertEqual(state, ('w', [(-5, 2)], 0, (1, 3)))

    def test_numbers_of_30_and_31_digits(self):
        nines = '9' * 30
        for text in (f'run r w {nines} 0 0', f'run r w 0 {nines} 0', f'run r w 0 1/{nines} -{nines}', f'run r w 0 0 1/{nines}'):
            space = parse_workspace(f'{STEP}{text}\n')
            self.assertEqual(format_workspace(space), f'{STEP}{text}\n')
        for long in ('1' + '0' * 30, '9' * 31):
            for text in (f'run r w {long} 0 0', f'run r w 0 {long} 0', f'run r w 0 1/{long} 0', f'run r w 0 0 {long}', f'run r w 0 0 -1/{long}'):
                self.wrong_space(f'{STEP}{text}\n', 2)
        self.assertEqual(parse_workspace(f'{STEP}run r w {nines} 0 0\n').run_state('r')[2], 10 ** 30 - 1)

    def test_seven_systems_and_seven_runs(self):
        systems = [f'system {name}\na: a\n' for name in 'abcdefg']
        runs = [f'run {name} a 0 0 0\n' for name in 'abcdefg']
        full = ''.join(systems[:6] + runs[:6])
        space = parse_workspace(full)
        self.assertEqual(repr(space), 'Workspace(6 systems, 6 runs)')
        self.assertEqual(format_workspace(space), full)
        with self.assertRaises(CapacityExceeded):
            space.apply(('start', 'x', 'a', [(0, 1)]))
        self.wrong_space(full + runs[6], 18)
        self.wrong_space(''.join(systems), 12)
        self.wrong_space(''.join(systems + runs), 12)
        self.wrong_space(''.join(systems[:6] + runs), 18)

    def test_long_weights(self):
        text = f'system w\na: mix(1/{LONG} a, {LONG - 1}/{LONG} a - {LONG}/{LONG - 1})\nrun r w 1 0 1/3\n'
        self.assertEqual(format_workspace(parse_workspace(text)), text)


if __name__ == "__main__":
    unittest.main()
