"""The names and arguments of the interface, where they are defined, and the sizes of the files."""

import ast
import importlib
import inspect
import pathlib
import unittest

import fullhands

FOLDER = pathlib.Path(fullhands.__file__).parent
FILES = sorted(FOLDER.rglob("*.py"))

FUNCTIONS = {
    "fullhands.ground.text": {"table_text": "(table)", "read_table": "(text)"},
    "fullhands.moves.step": {
        "after": "(standing, move)", "possible": "(standing, *, enters=True)", "back": "(standing)",
    },
    "fullhands.moves.run": {
        "play": "(standing, run)", "trace": "(standing, run)", "run_effort": "(run)", "run_text": "(run)",
        "read_run": "(text)",
    },
    "fullhands.moves.knot": {"knot": "(standing)", "settle": "(standing)"},
    "fullhands.moves.clear": {"clearing": "(standing)", "dead_set": "(standing)", "coming": "(standing)"},
    "fullhands.dealing.lots": {
        "lots": "(table, *, slow=False)", "can_hold": "(table, lot, kind, person)", "supply": "(table, lot, people)",
    },
    "fullhands.dealing.deal": {
        "deal": "(table, lot)", "short_set": "(table, lot)", "is_dealing": "(table, lot, dealing)",
        "uses": "(dealing)", "dealt_standing": "(table, lot, dealing)",
    },
    "fullhands.dealing.core": {
        "is_core": "(table, lot, dealing)", "core": "(table, lot, dealing)", "placing": "(table, lot, dealing)",
    },
    "fullhands.dealing.verdict": {"read_verdict": "(text)"},
    "fullhands.dealing.judge": {"judge": "(table)", "no_lot": "(table)"},
    "fullhands.least.effort": {"least_effort": "(table)", "effort_certificate": "(table)"},
    "fullhands.hosts.program": {
        "program_text": "(program)", "read_program": "(text)", "sends": "(program, host)", "reduced": "(program)",
    },
    "fullhands.hosts.choice": {
        "first_moves": "(table, program, host, send)", "total_moves": "(table, program)", "choices": "(program)",
        "choice_table": "(table, program, choice)",
    },
    "fullhands.hosts.judge": {
        "judge_program": "(table, program)", "moves_to_knot": "(table, program)",
        "schedule_to_knot": "(table, program)",
    },
    "fullhands.least.dishes": {"least_dishes": "(table)", "dishes_certificate": "(table)"},
    "fullhands.least.front": {
        "front": "(table)", "stuck_within": "(table, *, most_dishes=None, most_effort=None)",
    },
    "fullhands.least.counts": {
        "dealings": "(table, lot)", "count_dealings": "(table, lot)", "dealing_at": "(table, lot, index)",
        "index_of": "(table, lot, dealing)",
    },
    "fullhands.bounds.vectors": {
        "danger_of": "(table)", "stuck_with": "(table, mosts, *, shares=(), at_once=None)",
        "alike_bounds": "(one, other)",
    },
    "fullhands.remedies.blocker": {"least_sets": "(sets)", "blocker": "(sets)"},
    "fullhands.remedies.cures": {
        "least_lots": "(table)", "reliefs": "(table)", "quickenings": "(table)", "barrings": "(table)",
        "cheapest_relief": "(table, prices)", "cheapest_quickening": "(table, prices)",
        "cheapest_barring": "(table, prices)",
    },
    "fullhands.remedies.hire": {"least_hands": "(table)", "cheapest_hands": "(table, prices)"},
    "fullhands.rings.wants": {"rings_of_wants": "(table)", "judge_single": "(table)"},
    "fullhands.rings.roundtable": {
        "round_order": "(table)", "goes_forward": "(table, kind)", "judge_round": "(table)",
    },
    "fullhands.rings.longrow": {
        "row_least": "(pattern, many, forward, backward, both=None)",
        "row_first_stuck": "(pattern, forward, backward, both=None)",
        "row_table": "(pattern, many, forward, backward, both=None)",
    },
    "fullhands.hanging.branch": {
        "dish_loads": "(table, person)", "effort_loads": "(table, person)",
        "least_with": "(table, hung, *, by_effort=False)", "chain_loads": "(piece, outer, inner, many)",
    },
    "fullhands.hanging.hang": {"hang": "(main, person, branch, port)", "branches": "(table, person)"},
}
GENERATORS = ["possible", "back", "trace", "choices", "dealings"]
METHODS = {
    ("fullhands.ground.table", "Table"): {
        "__init__": "(self, hands, ties, kinds, *, quick=(), shares=())", "neighbours": "(self, person)",
        "is_tied": "(self, person, other)", "is_quick": "(self, person, other)", "wants": "(self, kind, person)",
        "steps_to": "(self, kind, person)", "share_of": "(self, kind)", "is_tree": "(self)", "is_round": "(self)",
        "has_one_hand": "(self)", "with_hands": "(self, person, many)", "with_most": "(self, kind, most)",
        "with_quick": "(self, person, other)", "without_quick": "(self, person, other)",
        "with_kind": "(self, way, most)", "without_kind": "(self, kind)", "with_person": "(self, person, many)",
        "renumbered": "(self, order)",
    },
    ("fullhands.moves.standing", "Standing"): {
        "__init__": "(self, table, places)", "held": "(self, person)", "free": "(self, person)",
        "dishes": "(self, kind, person)", "out": "(self, kind)", "full": "(self)", "wanted_from": "(self, person)",
    },
    ("fullhands.dealing.verdict", "Verdict"): {"text": "(self)"},
    ("fullhands.dealing.verdict", "StuckVerdict"): {
        "__init__": "(self, lot, dealing, run)", "holds": "(self, table)",
    },
    ("fullhands.dealing.verdict", "SafeVerdict"): {"__init__": "(self, ground, shorts)", "holds": "(self, table)"},
    ("fullhands.bounds.danger", "Danger"): {
        "__init__": "(self, size, rows)", "__iter__": "(self)", "__len__": "(self)", "__contains__": "(self, row)",
        "__or__": "(self, other)", "__and__": "(self, other)", "__eq__": "(self, other)", "beside": "(self, other)",
        "tops": "(self)", "parting": "(self, other)",
    },
    ("fullhands.hanging.loads", "Loads"): {
        "__init__": "(self, entries)", "__add__": "(self, other)", "__eq__": "(self, other)",
        "__getitem__": "(self, at)", "__iter__": "(self)", "first_difference": "(self, other)",
        "times": "(self, many)",
    },
    ("fullhands.seen.watch", "Watch"): {
        "__init__": "(self, table)", "told": "(self)", "tell": "(self, event)", "fact": "(self, moment, claim)",
        "worlds": "(self, moment)", "witness": "(self, moment, places)", "ask": "(self, moment, claim)",
        "could": "(self, event)",
    },
    ("fullhands.seen.sketch", "Sketch"): {
        "__init__": "(self, table, more_hands, more_mosts)", "harsh": "(self)", "mild": "(self)",
        "ask_safe": "(self)", "dishes_range": "(self)", "told_hands": "(self, person, many)",
        "told_most": "(self, kind, most)",
    },
    ("fullhands.hosts.play", "Play"): {
        "__init__": "(self, table, program)", "open_moves": "(self)", "move": "(self, step)",
        "position": "(self, host)", "entered": "(self, host)", "held_by": "(self, person)", "play_knot": "(self)",
    },
    ("fullhands.desk.desk", "Desk"): {
        "__init__": "(self, table)", "do": "(self, line)", "attempt": "(self, lines)", "undo": "(self)",
        "redo": "(self)", "log": "(self)", "present": "(self)",
    },
}
PROPERTIES = {
    ("fullhands.ground.table", "Table"): ["people"],
    ("fullhands.moves.standing", "Standing"): ["total", "left"],
    ("fullhands.seen.watch", "Watch"): ["now"],
    ("fullhands.hosts.play", "Play"): ["finished", "moves_made"],
}


def own(module, name):
    value = vars(importlib.import_module(module))[name]
    return value if value.__module__ == module else None


class Interface(unittest.TestCase):
    def test_functions(self):
        for module, functions in FUNCTIONS.items():
            for name, arguments in functions.items():
                self.assertEqual(str(inspect.signature(own(module, name))), arguments, name)
                self.assertEqual(inspect.isgeneratorfunction(own(module, name)), name in GENERATORS, name)

    def test_methods(self):
        for (module, name), methods in METHODS.items():
            for method, arguments in methods.items():
                found = vars(own(module, name))[method]
                self.assertEqual(str(inspect.signature(found)), arguments, method)

    def test_properties(self):
        for (module, name), properties in PROPERTIES.items():
            for found in properties:
                self.assertIsInstance(vars(own(module, name))[found], property)

    def test_static_methods(self):
        for module, name, method, arguments in (("fullhands.moves.standing", "Standing", "empty", "(table)"),
                                                ("fullhands.bounds.danger", "Danger", "from_tops", "(size, tops)"),
                                                ("fullhands.hanging.loads", "Loads", "none", "()"),
                                                ("fullhands.desk.desk", "Desk", "replayed", "(table, log)")):
            found = vars(own(module, name))[method]
            self.assertIsInstance(found, staticmethod)
            self.assertEqual(str(inspect.signature(found.__func__)), arguments)


class Files(unittest.TestCase):
    def test_each_folder_is_a_package(self):
        for file in FILES:
            self.assertTrue((file.parent / "__init__.py").exists(), file)

    def test_sizes(self):
        for file in FILES:
            lines = file.read_text().split("\n")
            self.assertLessEqual(len(lines) - 1, 399, file)
            self.assertLessEqual(max([len(line) for line in lines]), 120, file)
            for node in ast.walk(ast.parse(file.read_text())):
                if isinstance(node, ast.FunctionDef):
                    self.assertLessEqual(node.end_lineno - node.lineno + 1, 40, (file, node.name))

    def test_characters(self):
        for file in FILES:
            for sign in file.read_text():
                self.assertTrue(sign == "\n" or " " <= sign <= "~", (file, sign))

    def test_imports_name_the_file_that_defines(self):
        for file in FILES:
            for node in ast.walk(ast.parse(file.read_text())):
                self.assertNotIsInstance(node, ast.Import, file)
                if isinstance(node, ast.ImportFrom):
                    self.assertEqual((node.level, node.module.split(".")[0]), (0, "fullhands"), file)
                    for name in node.names:
                        value = getattr(importlib.import_module(node.module), name.name)
                        self.assertEqual(getattr(value, "__module__", node.module), node.module, file)
