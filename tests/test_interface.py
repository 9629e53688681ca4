"""The names, arguments and defaults of the interface, module by module."""

import importlib
import inspect
import unittest

CONSTANTS = {
    'rationals': {'ZERO': (0, 1)},
    'terms': {'MAX_SIZE': 40, 'MAX_DEPTH': 10},
    'systems': {'MAX_EVENTS': 6, 'MAX_ROUNDS': 100},
    'slack': {'MAX_DELAY': 1000},
    'workspace': {'MAX_SYSTEMS': 6, 'MAX_RUNS': 6},
}
FUNCTIONS = {
    'rationals': (
        '(num, den=1) fraction', '(one, other) add', '(one, other) subtract', '(one, other) multiply', '(one, other) divide',
        '(one, other) is_less', '(row, *, start=(0, 1)) total', '(row) index_of_max', '(row) index_of_min', '(one) ceiling',
        '(one) format_fraction', '(text) parse_fraction'),
    'terms': (
        '(thing) is_valid_name', '(thing) is_valid_term', '(term) term_size', '(term) term_depth', '(term) event_names',
        '(term, table) evaluate'),
    'syntax': ('(term) format_term', '(text) parse_term'),
    'piecewise': ('(term, table, *, since=(0, 1)) trace',),
    'linear': ('(rows, targets) solve_linear', '(rows, targets, answer) check_solution'),
    'regimes': (
        '(system) find_regime', '(system) rates_of', '(system, name) rate_of', '(system, times, rates, since) is_regime',
        '(one, other) distance', '(regime, rounds) regime_times'),
    'restrictions': (
        '(system) lower_restriction', '(system) upper_restriction', '(system, other, *, lower=True) is_restriction'),
    'slack': (
        '(system, name, amount) delay_event', '(system, name, *, target, max_rate, limit=1000) find_slack'),
    'combine': ('(one, other) union', '(one, other) compose', '(system, quantity) repeat', '(system) negate'),
    'documents': ('(text) parse_system', '(workspace) format_workspace', '(text) parse_workspace'),
}
METHODS = {
    ('systems', 'EventSystem'): (
        '(self, rows) __init__', '(self) rows', '(self) names', '(self) terms', '(self, name) term',
        '(self, times, *, rounds=1) simulate', '(self) __len__', '(self, other) __eq__', '(self) __str__', '(self) __repr__'),
    ('runs', 'Run'): (
        '(self, system, times) __init__', '(self, *, rounds=1) advance', '(self, name, amount) shift', '(self) undo', '(self) redo',
        '(self) system', '(self) times', '(self) total_shift', '(self) deviation', '(self) deviation_bound',
        '(self, rounds) time_bounds', '(self) clone', '(self) __len__', '(self) __repr__'),
    ('workspace', 'Workspace'): (
        '(self) __init__', '(self, command) apply', '(self, commands) apply_all', '(self) undo', '(self) redo', '(self) names',
        '(self) runs', '(self, name) system', '(self, name) run_state', '(self, name) regime_of', '(self) computations',
        '(self) cached', '(self) history', '(self) clone', '(self, other) __eq__', '(self) __len__', '(self) __repr__'),
}


def module(name):
    return importlib.import_module('gaithold.' + name)


class InterfaceTest(unittest.TestCase):
    def check(self, where, listed):
        for row in listed:
            arguments, _, name = row.rpartition(' ')
            self.assertIn(name, vars(where), (where, name))
            self.assertEqual(str(inspect.signature(vars(where)[name])), arguments, name)

    def test_functions(self):
        for name, listed in FUNCTIONS.items():
            self.check(module(name), listed)

    def test_methods_stand_in_their_class(self):
        for (name, kind), listed in METHODS.items():
            self.check(getattr(module(name), kind), listed)

    def test_constants(self):
        for name, listed in CONSTANTS.items():
            for constant, value in listed.items():
                self.assertEqual(getattr(module(name), constant), value)


if __name__ == "__main__":
    unittest.main()
