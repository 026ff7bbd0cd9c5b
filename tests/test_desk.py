import functools
import random
import unittest

from fullhands.dealing.judge import judge
from fullhands.desk.desk import Desk
from fullhands.ground.table import Table
from fullhands.least.dishes import least_dishes
from fullhands.least.effort import least_effort
from fullhands.moves.knot import knot
from fullhands.moves.run import run_text
from fullhands.moves.standing import Standing
from fullhands.moves.step import possible
from tests.model import Model
from tests.search import random_tree
from tests.support import bad_table, cannot_move, fields, no_such, refused
from tests.test_judge import NO_TREE, RING

BAD_LINE = ("BadLine",)
NO_UNDO = ("NothingToUndo",)
NO_REDO = ("NothingToRedo",)
ROW = [(0, 1), (1, 2)]
PAIR = [((0, 1), 1), ((1, 0), 1)]
QUESTIONS = ("ask safe", "ask dishes", "ask effort", "ask knot", "ask total")


def in_use(what):
    return ("InUse", ("what", what))


def failed(index):
    return ("AttemptFailed", ("index", index))


def pair_desk(**more):
    return Desk(Table([1, 1], [(0, 1)], PAIR, **more))


def shown(desk):
    """What a desk shows without being changed."""
    table, standing = desk.present()
    assert standing.table is table
    return fields(table), standing.places, desk.log()


def lines_back(desk):
    """All lines that can be taken back, the last one first; the desk is as before afterwards."""
    found = []
    while refused(desk.undo) is None:
        found.append(desk.redo())
        desk.undo()
    for _ in found:
        desk.redo()
    return found


class Plain:
    """A desk told again: a row of snapshots, the last line done in front of the present one, and the present one."""

    def __init__(self, table):
        self.states = [(table, Model(table).empty())]
        self.lines = []
        self.at = 0

    @property
    def log(self):
        return "\n".join(self.lines[:self.at])

    def do(self, line):
        """The reply, or the error in the form of `refused`."""
        words = line.split(" ")
        table, places = self.states[self.at]
        if words[0] == "ask":
            return self.answer(table, places, words[1])
        if words[0] in ("enter", "pass", "swap"):
            move = (words[0],) + tuple(map(int, words[1:]))
            reason = Told(table).reason(places, move)
            if reason is not None:
                return cannot_move(reason)
            return self.step(line, "done", table, Model(table).after(places, move))
        if words[0] == "settle":
            many, places = self.settled(table, places)
            return self.step(line, f"settled {many}", table, places)
        return self.edit(line, table, places)

    def step(self, line, reply, table, places):
        self.states[self.at + 1:] = [(table, places)]
        self.lines[self.at:] = [line]
        self.at += 1
        return reply

    @staticmethod
    def settled(table, places):
        model, many = Model(table), 0
        while True:
            steps = model.steps(places, False)
            if not steps:
                return many, places
            places = steps[0][1]
            many += 1

    @staticmethod
    def answer(table, places, asked):
        if asked == "safe":
            return "stuck" if judge(table).STUCK else "safe"
        if asked in ("dishes", "effort"):
            least = (least_dishes if asked == "dishes" else least_effort)(table)
            return "none" if least is None else str(least)
        if asked == "total":
            return str(sum(map(sum, places)))
        people = set().union(*Model(table).knots(places))
        return " ".join(map(str, sorted(people))) or "none"

    def edit(self, line, table, places):
        word, *numbers = line.split(" ")
        if word == "kind":
            numbers = [int(numbers[0]), [int(number) for number in numbers[2:]]][::-1]
        else:
            numbers = list(map(int, numbers))
        method = {"hands": "with_hands", "most": "with_most", "quick": "with_quick", "slow": "without_quick",
                  "person": "with_person", "kind": "with_kind", "drop": "without_kind"}[word]
        change = getattr(table, method)
        error = refused(change, *numbers)
        if error is not None:
            return error
        if word == "hands" and Model(table).held(places, numbers[0]) > numbers[1]:
            return in_use("hands")
        if word == "most" and sum(places[numbers[0]]) > numbers[1]:
            return in_use("most")
        if word == "drop" and sum(places[numbers[0]]) > 0:
            return in_use("kind")
        if word == "kind":
            places = places + ((0,) * (len(numbers[0]) - 1),)
        if word == "drop":
            places = tuple(row for kind, row in enumerate(places) if kind != numbers[0])
        return self.step(line, "done", change(*numbers), places)


class Told:
    """The reasons of a model, which knows only moves of the table's own kinds and people."""

    def __init__(self, table):
        self.table, self.model = table, Model(table)

    def reason(self, places, move):
        kinds = move[1:2] + move[3:4]
        people = (move[2:3] + move[4:5])
        if any(kind >= len(self.table.kinds) for kind in kinds):
            return "unknown"
        if any(person >= self.table.people for person in people):
            return "unknown"
        return self.model.reason(places, move)


def random_line(rule, table, standing):
    """A line with a form, often one that is let."""
    moves = list(possible(standing))
    swaps = [move for move in moves if move[0] == "swap"]
    if moves and rule.random() < 0.4:
        return run_text([rule.choice(swaps or moves)])

    def person():
        return rule.randrange(table.people + (rule.random() < 0.1))

    def kind():
        return rule.randrange(max(1, len(table.kinds)) + (rule.random() < 0.1))

    word = rule.choice(["enter"] * 6 + ["pass"] * 5 + ["swap"] * 2 + ["settle", "hands", "hands", "most", "most",
                       "quick", "slow", "person", "kind", "drop", "ask"])
    if word == "ask":
        return rule.choice(QUESTIONS)
    if word == "kind":
        one = person()
        way = [one]
        for _ in range(rule.randint(0, 3)):
            near = [other for other in table.neighbours(way[-1]) if other not in way] if one < table.people else []
            way += rule.sample(near, min(1, len(near)))
        return f"kind {rule.randint(0, 3)} via " + " ".join(map(str, way))
    numbers = {"enter": [kind()], "pass": [kind(), person()], "swap": [kind(), person(), kind(), person()],
               "settle": [], "hands": [person(), rule.choice((0, 1, 1, 2, 2, 3, 5))],
               "most": [kind(), rule.choice((0, 1, 2, 3, 3, 25))], "quick": [person(), person()],
               "slow": [person(), person()], "person": [person(), rule.choice((0, 1, 2))], "drop": [kind()]}[word]
    return " ".join([word] + [str(number) for number in numbers])


def sessions(seed, many):
    rule = random.Random(seed)
    for _ in range(many):
        yield rule, random_tree(rule, people=(1, 4), hands=(1, 2), kinds=(0, 4), quick=0.4, shares=0.3)


class AgainstThePlainDesk(unittest.TestCase):
    def tell(self, desk, plain, line):
        expected = plain.do(line)
        before = shown(desk)
        if isinstance(expected, str):
            self.assertEqual(desk.do(line), expected, line)
        else:
            self.assertEqual(refused(desk.do, line), expected, line)
            self.assertEqual(shown(desk), before)
        return line.split(" ")[0], expected if isinstance(expected, tuple) else ""

    def back_and_forth(self, rule, desk, plain):
        for _ in range(rule.randint(1, 4)):
            if rule.random() < 0.6:
                if plain.at == 0:
                    self.assertEqual(refused(desk.undo), NO_UNDO)
                else:
                    plain.at -= 1
                    self.assertEqual(desk.undo(), plain.lines[plain.at])
            elif plain.at == len(plain.lines):
                self.assertEqual(refused(desk.redo), NO_REDO)
            else:
                plain.at += 1
                self.assertEqual(desk.redo(), plain.lines[plain.at - 1])

    def check_same(self, desk, plain):
        table, places = plain.states[plain.at]
        self.assertEqual(shown(desk), (fields(table), places, plain.log))

    def test_line_by_line(self):
        done = set()
        for rule, table in sessions(64, 180):
            desk, plain = Desk(table), Plain(table)
            for _ in range(40):
                if rule.random() < 0.15:
                    self.back_and_forth(rule, desk, plain)
                else:
                    done.add(self.tell(desk, plain, random_line(rule, *desk.present())))
                self.check_same(desk, plain)
        words = ("enter", "pass", "swap", "settle", "hands", "most", "quick", "slow", "person", "kind", "drop", "ask")
        self.assertLessEqual({(word, "") for word in words}, done)
        reasons = {(word, cannot_move(reason)) for word, row in (
            ("enter", ("unknown", "most", "share", "hands")), ("pass", ("unknown", "none", "hands")),
            ("swap", ("unknown", "tie", "none"))) for reason in row}
        self.assertLessEqual(reasons, done)
        self.assertLessEqual({("hands", in_use("hands")), ("most", in_use("most")), ("drop", in_use("kind")),
                              ("quick", no_such("tie")), ("slow", no_such("tie")), ("drop", no_such("kind")),
                              ("most", no_such("kind"))}, done)

    def test_attempts(self):
        """Attempts that succeed, and that fail at each place."""
        places = set()
        for rule, table in sessions(65, 60):
            desk, plain = Desk(table), Plain(table)
            for _ in range(8):
                if rule.random() < 0.4:
                    self.back_and_forth(rule, desk, plain)
                lines = [random_line(rule, *desk.present()) for _ in range(rule.randint(0, 5))]
                kept = (list(plain.states), list(plain.lines), plain.at)
                replies = []
                for line in lines:
                    replies.append(plain.do(line))
                    if isinstance(replies[-1], tuple):
                        break
                if replies and isinstance(replies[-1], tuple):
                    plain.states, plain.lines, plain.at = kept
                    self.assertEqual(refused(desk.attempt, lines), failed(len(replies) - 1))
                    places.add(len(replies) - 1)
                else:
                    self.assertEqual(desk.attempt(tuple(lines)), replies)
                    places.add("done")
                self.check_same(desk, plain)
                self.assertEqual(lines_back(desk), plain.lines[:plain.at][::-1])
                redone = []
                while refused(desk.redo) is None:
                    redone.append(None)
                self.assertEqual(len(redone), len(plain.lines) - plain.at)
                for _ in redone:
                    desk.undo()
                self.check_same(desk, plain)
        self.assertLessEqual({0, 1, 2, 3, "done"}, places)

    def test_replayed(self):
        """The log of a desk leads another desk to the same, and it can be taken back there as well."""
        for rule, table in sessions(66, 40):
            desk = Desk(table)
            for _ in range(25):
                refused(desk.do, random_line(rule, *desk.present()))
                if rule.random() < 0.1:
                    refused(desk.undo)
            other = Desk.replayed(table, desk.log())
            self.assertEqual(shown(other), shown(desk))
            while desk.log():
                self.assertEqual(other.undo(), desk.undo())
                self.assertEqual(shown(other), shown(desk))
            self.assertEqual(refused(other.undo), NO_UNDO)

    def test_safe_means_that_settling_empties_the_table(self):
        safe = 0
        for rule, table in sessions(67, 150):
            desk = Desk(table)
            for _ in range(30):
                refused(desk.do, random_line(rule, *desk.present()))
                if desk.present()[1].total and desk.do("ask safe") == "safe":
                    safe += 1
                    desk.do("settle")
                    self.assertEqual((desk.do("ask total"), desk.do("ask knot")), ("0", "none"))
                    self.assertEqual(desk.present()[1].total, 0)
                    desk.undo()
        self.assertGreater(safe, 100)


@functools.cache
def right_lines():
    """A line of each form, which is let on the table of `Lines`."""
    return ("enter 0", "pass 0 0", "swap 0 0 1 1", "settle", "hands 0 4", "most 0 24", "quick 0 1", "slow 1 0",
            "person 1 2", "kind 3 via 0 1", "kind 3 via 2 1 0", "drop 2") + QUESTIONS


class Lines(unittest.TestCase):
    def desk(self):
        return Desk(Table([1, 1, 1], ROW, PAIR + [((1, 2), 2)], quick=[(0, 1)]))

    def ready(self, line):
        """A desk on which the line is let."""
        desk = self.desk()
        if line.startswith(("pass", "swap")):
            desk.do("enter 0")
        if line.startswith("swap"):
            desk.do("enter 1")
        return desk

    def test_right_lines(self):
        for line in right_lines():
            reply = self.ready(line).do(line)
            self.assertIsInstance(reply, str)
            if not line.startswith(("ask", "settle")):
                self.assertEqual(reply, "done")

    def test_replies(self):
        desk = self.desk()
        told = [("ask safe", "stuck"), ("ask dishes", "2"), ("ask effort", "2"), ("ask knot", "none"),
                ("ask total", "0"), ("settle", "settled 0"), ("enter 0", "done"), ("ask total", "1"),
                ("enter 1", "done"), ("ask knot", "none"), ("slow 0 1", "done"), ("ask knot", "0 1"),
                ("settle", "settled 0"), ("ask total", "2"), ("quick 1 0", "done"), ("settle", "settled 1"),
                ("ask total", "0"), ("most 2 0", "done"), ("ask safe", "safe"), ("ask dishes", "none"),
                ("ask effort", "none")]
        lines = [line for line, _ in told]
        expected = [reply for _, reply in told]
        # With the quick tie the first two people are no slow lot, and persons 1 and 2 cannot be dealt full.
        expected[:3] = ["safe", "none", "none"]
        self.assertEqual([desk.do(line) for line in lines], expected)
        self.assertEqual(self.desk().attempt(lines), expected)

    def test_great_least_numbers(self):
        people = tuple(range(6))
        desk = Desk(Table([4] * 6, list(zip(people, people[1:])), [(people, 24), (people[::-1], 24)]))
        self.assertEqual((desk.do("ask dishes"), desk.do("ask effort")), ("8", "24"))

    def test_bad_lines(self):
        bad = ["", " ", "  ", "ask", "asks safe", "ask  safe", " ask safe", "ask safe ", "ask Safe", "ASK safe",
               "ask hands", "ask 0", "ask safe 0", "ask safe dishes", "undo", "redo", "log", "attempt", "present",
               "settle 0", "settled", "Settle", " settle", "settle ", "settle\n", "\nsettle", "enter", "enter 0 0",
               "enter  0", "enter 0 ", " enter 0", "enter -1", "enter +1", "enter 1.", "enter x", "enter 00",
               "enter 01", "enter 100", "enter 000", "enter 0\nenter 0", "enter 0\n", "enter\t0", "Enter 0", "pass",
               "pass 0", "pass 0 0 0", "pass 0  0", "pass 0 01", "pass 100 0", "swap", "swap 0 0 1", "swap 0 0 1 1 1",
               "swap 0 0 1 01", "hands", "hands 0", "hands 0 1 1", "hands 0 01", "hands 0 100", "hands 0 -1",
               "hands 1 1 ", "hand 0 1", "most 0", "most", "most 0 024", "most 0 1 1", "most 0 -1", "quick 0",
               "quick 0 1 0", "quick", "quick 0,1", "slow 0", "slow", "slow 0 1 0", "person 0", "person 0 1 1",
               "person", "kind", "kind 3", "kind 3 via", "kind 3 via ", "kind via 0 1", "kind 3 of 0 1", "kind 3 0 1",
               "kind 3 via 0  1", "kind 03 via 0 1", "kind 3 via 00 1", "kind 3 via 0 100", "kind 3 via 0 via",
               "kind x via 0 1", "kind 3 via 0 1 ", "kind 100 via 0 1", "drop", "drop 0 0", "drop 01", "drop x",
               "drop 100", "drop ", "tie 0 1", "share 1 of 0", "hands 1 1 1", "stuck", "done"]
        desk = self.desk()
        desk.do("enter 0")
        before = shown(desk)
        for line in bad:
            self.assertEqual(refused(desk.do, line), BAD_LINE, line)
            self.assertEqual(refused(desk.attempt, ["ask safe", line]), failed(1))
            if "\n" not in line:
                self.assertEqual(refused(Desk.replayed, desk.present()[0], "settle\n" + line), failed(1), line)
        self.assertEqual(shown(desk), before)

    def test_right_lines_with_one_change(self):
        """Words left out, told twice or with a space more."""
        for line in right_lines():
            words = line.split(" ")
            changed = [" ".join(words[:at] + words[at + 1:]) for at in range(len(words))]
            changed += [" ".join(words[:at] + [""] + words[at:]) for at in range(len(words) + 1)]
            changed += [" ".join(words + words[-1:])]
            for other in changed:
                if not (words[0] == "kind" and other.startswith("kind 3 via ") and "  " not in other
                        and other[-1] != " "):
                    self.assertEqual(refused(self.ready(line).do, other), BAD_LINE, other)

    def test_two_digits(self):
        desk = self.desk()
        self.assertEqual(desk.do("most 0 10"), "done")
        self.assertEqual(refused(desk.do, "enter 10"), cannot_move("unknown"))
        self.assertEqual(refused(desk.do, "pass 99 99"), cannot_move("unknown"))
        self.assertEqual(refused(desk.do, "hands 99 1"), no_such("person"))
        self.assertEqual(refused(desk.do, "most 0 99"), bad_table("kinds", 0))
        self.assertEqual(refused(desk.do, "hands 2 10"), bad_table("hands", 2))


class Edits(unittest.TestCase):
    def desk(self):
        """Dishes on the way with both people."""
        desk = Desk(Table([3, 2, 1], ROW, [((0, 1, 2), 3), ((2, 1), 1), ((1, 0), 2)], shares=[((0, 2), 4)]))
        desk.attempt(["enter 0", "enter 0", "pass 0 0", "enter 2"])
        return desk

    def check(self, line, error):
        desk = self.desk()
        before = shown(desk)
        self.assertEqual(refused(desk.do, line), error, line)
        self.assertEqual(shown(desk), before)
        self.assertEqual(lines_back(desk), before[2].split("\n")[::-1])

    def test_errors(self):
        for line, error in (
                ("hands 0 0", bad_table("hands", 0)), ("hands 2 5", bad_table("hands", 2)),
                ("hands 1 0", bad_table("hands", 1)), ("hands 3 1", no_such("person")),
                ("hands 3 0", no_such("person")), ("hands 1 1", in_use("hands")), ("most 3 1", no_such("kind")),
                ("most 3 25", no_such("kind")), ("most 0 25", bad_table("kinds", 0)), ("most 0 1", in_use("most")),
                ("most 0 0", in_use("most")), ("most 2 0", in_use("most")), ("quick 0 2", no_such("tie")),
                ("quick 1 1", no_such("tie")), ("quick 3 0", no_such("person")), ("quick 0 3", no_such("person")),
                ("slow 0 2", no_such("tie")), ("slow 2 2", no_such("tie")), ("slow 0 9", no_such("person")),
                ("person 3 1", no_such("person")), ("person 0 0", bad_table("hands", 3)),
                ("person 2 5", bad_table("hands", 3)), ("person 9 9", no_such("person")),
                ("kind 1 via 0", bad_table("kinds", 3)), ("kind 1 via 0 2", bad_table("kinds", 3)),
                ("kind 1 via 0 1 0", bad_table("kinds", 3)), ("kind 25 via 0 1", bad_table("kinds", 3)),
                ("kind 1 via 0 1 2 3", bad_table("kinds", 3)), ("drop 3", no_such("kind")), ("drop 0", in_use("kind")),
                ("drop 2", in_use("kind")), ("enter 1", None), ("enter 3", cannot_move("unknown")),
                ("enter 2", cannot_move("hands")), ("pass 0 1", None), ("pass 1 1", cannot_move("none")),
                ("pass 0 0", cannot_move("hands")), ("swap 0 0 2 1", cannot_move("tie"))):
            if error is None:
                self.assertEqual(self.desk().do(line), "done")
            else:
                self.check(line, error)

    def test_too_many_people_and_kinds(self):
        desk = self.desk()
        self.assertEqual(desk.attempt(["person 0 1"] * 3 + ["kind 1 via 0 1"] * 3), ["done"] * 6)
        self.assertEqual(refused(desk.do, "person 0 1"), bad_table("people", 7))
        self.assertEqual(refused(desk.do, "person 0 9"), bad_table("people", 7))
        self.assertEqual(refused(desk.do, "kind 1 via 0 1"), bad_table("kinds", 6))

    def test_edits_with_dishes_on_the_way(self):
        places = ((1, 1), (0,), (1,))
        for line, expected in (
                ("hands 0 1", places), ("hands 1 2", places), ("hands 1 4", places), ("most 0 2", places),
                ("most 2 1", places), ("most 1 0", places), ("quick 0 1", places), ("slow 0 1", places),
                ("person 1 4", places), ("kind 2 via 2 1 0", places + ((0, 0),)), ("drop 1", places[:1] + places[2:])):
            desk = self.desk()
            self.assertEqual(desk.do(line), "done")
            self.assertEqual(desk.present()[1].places, expected, line)
        self.assertEqual(self.edited("hands 1 4").hands, (3, 4, 1))
        self.assertEqual(self.edited("most 1 0").kinds[1], ((2, 1), 0))
        self.assertEqual(self.edited("quick 2 1").quick, ((1, 2),))
        self.assertEqual(self.edited("person 1 4").ties, ((0, 1), (1, 2), (1, 3)))
        self.assertEqual(self.edited("person 1 4").hands, (3, 2, 1, 4))
        self.assertEqual(self.edited("kind 0 via 2 1 0").kinds[3:], (((2, 1, 0), 0),))
        table = self.edited("drop 1")
        self.assertEqual((table.kinds, table.shares), ((((0, 1, 2), 3), ((1, 0), 2)), (((0, 1), 4),)))

    def edited(self, line):
        desk = self.desk()
        desk.do(line)
        return desk.present()[0]

    def test_moves_after_edits(self):
        """The new kind and the new person take part, and the kinds behind a dropped one have their new numbers."""
        desk = self.desk()
        replies = desk.attempt(["drop 1", "pass 1 1", "person 2 1", "kind 1 via 2 3", "enter 2", "ask total", "settle",
                                "ask total"])
        self.assertEqual(replies, ["done"] * 5 + ["3", "settled 4", "0"])


class UndoAndRedo(unittest.TestCase):
    def test_nothing(self):
        desk = pair_desk()
        self.assertEqual((refused(desk.undo), refused(desk.redo), desk.log()), (NO_UNDO, NO_REDO, ""))
        for line in QUESTIONS:
            desk.do(line)
        refused(desk.do, "enter 9")
        refused(desk.do, "what")
        self.assertEqual((refused(desk.undo), refused(desk.redo), desk.log()), (NO_UNDO, NO_REDO, ""))

    def test_lines_without_effect(self):
        """A settle that makes no move and edits that change nothing are lines like all others."""
        lines = ["settle", "hands 0 1", "most 1 1", "slow 0 1", "quick 0 1", "quick 1 0", "settle"]
        desk = pair_desk()
        self.assertEqual(desk.attempt(lines), ["settled 0"] + ["done"] * 5 + ["settled 0"])
        self.assertEqual(desk.log(), "\n".join(lines))
        for line in lines[::-1]:
            self.assertEqual(desk.undo(), line)
        self.assertEqual(refused(desk.undo), NO_UNDO)
        for line in lines:
            self.assertEqual(desk.redo(), line)
        self.assertEqual((refused(desk.redo), desk.log()), (NO_REDO, "\n".join(lines)))

    def test_questions_and_refused_lines_between(self):
        desk = pair_desk()
        desk.attempt(["enter 0", "enter 1"])
        self.assertEqual(desk.undo(), "enter 1")
        for line in QUESTIONS:
            desk.do(line)
        for line in ("enter 0", "hands 0 9", "nothing", "drop 0", "hands 9 9"):
            self.assertIsNotNone(refused(desk.do, line))
        self.assertEqual(refused(desk.attempt, ["settle", "hands 1 2", "enter 9"]), failed(2))
        self.assertEqual(desk.attempt([]), [])
        self.assertEqual(desk.attempt(["ask total"]), ["1"])
        self.assertEqual(desk.redo(), "enter 1")
        self.assertEqual(desk.log(), "enter 0\nenter 1")
        desk.undo()
        desk.do("settle")
        self.assertEqual(refused(desk.redo), NO_REDO)
        self.assertEqual(desk.log(), "enter 0\nsettle")
        self.assertEqual([desk.undo(), desk.undo(), desk.redo(), desk.redo()],
                         ["settle", "enter 0", "enter 0", "settle"])

    def test_edits_are_taken_back(self):
        desk = pair_desk()
        first = fields(desk.present()[0])
        lines = ["hands 1 2", "enter 1", "enter 1", "most 1 3", "enter 1", "person 1 3", "kind 3 via 2 1", "quick 1 2",
                 "drop 0", "settle"]
        states = [shown(desk)[:2]]
        for line in lines:
            if refused(desk.do, line) is None:
                states.append(shown(desk)[:2])
        # The second `enter 1` is refused, since the most of the kind is 1 at that time.
        self.assertEqual(len(states), len(lines))
        for state in states[-2::-1]:
            desk.undo()
            self.assertEqual(shown(desk)[:2], state)
        self.assertEqual(fields(desk.present()[0]), first)
        for state in states[1:]:
            desk.redo()
            self.assertEqual(shown(desk)[:2], state)

    def test_a_failed_attempt_changes_nothing(self):
        for index in range(4):
            desk = pair_desk()
            desk.attempt(["hands 1 2", "enter 1", "settle"])
            desk.undo()
            before = shown(desk)
            lines = ["enter 0", "most 0 2", "settle"][:index] + ["enter 7", "enter 1", "bad"]
            self.assertEqual(refused(desk.attempt, lines), failed(index))
            self.assertEqual(shown(desk), before)
            self.assertEqual((desk.redo(), refused(desk.redo)), ("settle", NO_REDO))
            self.assertEqual(lines_back(desk), ["settle", "enter 1", "hands 1 2"])

    def test_each_line_of_an_attempt_is_taken_back_by_itself(self):
        desk = pair_desk()
        desk.attempt(["enter 0", "ask total", "enter 1", "ask knot"])
        self.assertEqual(desk.log(), "enter 0\nenter 1")
        self.assertEqual([desk.undo(), desk.do("ask total"), desk.undo(), refused(desk.undo)],
                         ["enter 1", "1", "enter 0", NO_UNDO])

    def test_arguments_stay_as_they_are(self):
        desk = pair_desk()
        lines = ["enter 0", "enter 1"]
        replies = desk.attempt(lines)
        lines.clear()
        replies.clear()
        self.assertEqual(desk.log(), "enter 0\nenter 1")

    def test_what_was_present_does_not_change(self):
        desk = pair_desk()
        table, standing = desk.present()
        self.assertIsInstance(desk.present(), tuple)
        before = fields(table), standing.places
        desk.attempt(["enter 0", "hands 1 3", "drop 1"])
        self.assertEqual((fields(table), standing.places), before)
        self.assertEqual(desk.present()[1].places, ((1,),))

    def test_example(self):
        desk = pair_desk()
        self.assertEqual(
            desk.attempt(["ask safe", "enter 0", "enter 1", "ask knot", "hands 1 2", "ask safe", "settle"]),
            ["stuck", "done", "done", "0 1", "done", "safe", "settled 2"])


class Replayed(unittest.TestCase):
    def table(self):
        return Table([1, 1], [(0, 1)], PAIR)

    def test_the_empty_log(self):
        desk = Desk.replayed(self.table(), "")
        self.assertIsInstance(desk, Desk)
        self.assertEqual((desk.log(), refused(desk.undo), desk.present()[1].total), ("", NO_UNDO, 0))

    def test_questions(self):
        desk = Desk.replayed(self.table(), "ask safe\nenter 0\nask knot\nask total")
        self.assertEqual((desk.log(), desk.undo(), refused(desk.undo)), ("enter 0", "enter 0", NO_UNDO))

    def test_refused_lines(self):
        for log, index in (("\n", 0), ("enter 0\n", 1), ("enter 0\n\nenter 1", 1), ("enter 0\nenter 0", 1),
                           ("what", 0), ("ask safe\nask dishes\nask", 2), ("enter 0\ndrop 0", 1),
                           ("enter 0\nenter 1\nhands 5 5", 2), ("settle\nsettle\nmost 0 25", 2), (" ", 0)):
            self.assertEqual(refused(Desk.replayed, self.table(), log), failed(index), log)

    def test_wrong_ground(self):
        ring = Table([1] * 3, RING, PAIR)
        self.assertEqual(refused(Desk, ring), NO_TREE)
        for log in ("", "what", "enter 0", "\n"):
            self.assertEqual(refused(Desk.replayed, ring, log), NO_TREE)

    def test_nothing_can_be_done_again(self):
        desk = Desk.replayed(self.table(), "enter 0\nenter 1")
        self.assertEqual(refused(desk.redo), NO_REDO)
        self.assertEqual(knot(desk.present()[1]), (0, 1))
        self.assertIsInstance(desk.present()[1], Standing)
