import copy
import random
import unittest

from fullhands.dealing.judge import judge
from fullhands.ground.table import Table
from fullhands.hosts.choice import choice_table, choices, total_moves
from fullhands.hosts.judge import moves_to_knot, schedule_to_knot
from fullhands.hosts.play import Play
from fullhands.hosts.program import read_program
from tests.hosts import HUGE, HostPlay, random_program
from tests.search import random_tree
from tests.support import cannot_move, fields, no_such, refused
from tests.test_hosts_judge import NO_QUICK
from tests.test_judge import RING
from tests.webs import random_web

FAR = 10 ** 40
ROW = [(0, 1), (1, 2)]
PAIR = [((0, 1), 1), ((1, 0), 1)]


def positions(row, before=()):
    """The positions of all sends in the order in which they are executed."""
    found = []
    for index, statement in enumerate(row):
        if statement[0] == "again":
            for over in range(statement[1]):
                found += positions(statement[2], before + (index, over))
        else:
            found.append(before + (index,))
    return found


class Told:
    """A play told again: the state of a `HostPlay`, and what the document says of it."""

    def __init__(self, table, program):
        self.plain = HostPlay(table, program)
        self.table, self.program, self.state, self.made = table, program, self.plain.start, 0
        self.positions = [positions(host) + [()] for host in program]

    def open_moves(self):
        """The moves in their order; those of the plain play may come in any."""
        moves = [move for move, _ in self.plain.steps(self.state)]
        enters = sorted(move for move in moves if move[0] == "enter")
        passes = [move for move in moves if move[0] == "pass"]
        return enters + sorted(passes, key=lambda move: move[1:3] + (self.way(move[2]).index(move[3]),))

    def way(self, kind):
        return self.table.kinds[kind][0]

    def move(self, move):
        self.state = dict(self.plain.steps(self.state))[move]
        self.made += 1

    def shown(self):
        """All that can be asked of the play, in the form of `shown_by`."""
        hosts = range(len(self.program))
        held = [holder for holder, _ in self.plain.dishes(self.state)]
        spots = [self.positions[host][self.state[host][0]] for host in hosts]
        return (self.open_moves(), spots, [self.state[host][1] for host in hosts],
                [held.count(person) for person in range(self.table.people)],
                tuple(sorted(self.plain.knot(self.state))), not any(spots), self.made)

    def reason(self, move):
        """Point 60, word by word."""
        word, host, kind = move[:3]
        if not 0 <= host < len(self.program) or not 0 <= kind < len(self.table.kinds):
            return "unknown"
        at, entered, rows = self.state[host]
        flows, window = (), None
        if at < len(self.plain.hosts[host]):
            _, flows, window = self.plain.hosts[host][at][1]
        index = {other: index for index, (_, other) in enumerate(flows)}.get(kind)
        held = [holder for holder, _ in self.plain.dishes(self.state)]
        way = self.way(kind)
        if word == "enter":
            if index is None or entered[index] == flows[index][0]:
                return "send"
            if window is not None and sum(map(sum, rows)) == window:
                return "window"
            return "hands" if held.count(way[0]) == self.table.hands[way[0]] else None
        person = move[3]
        if not 0 <= person < self.table.people:
            return "unknown"
        if index is None or person not in way[:-1] or rows[index][way.index(person)] == 0:
            return "none"
        wanted = way[way.index(person) + 1]
        return "hands" if held.count(wanted) == self.table.hands[wanted] else None


def shown_by(play, table, program):
    hosts = range(len(program))
    return (play.open_moves(), [play.position(host) for host in hosts], [play.entered(host) for host in hosts],
            [play.held_by(person) for person in range(table.people)], play.play_knot(), play.finished,
            play.moves_made)


def all_moves(table, program):
    """All moves, also with hosts, kinds and people that there are not."""
    hosts, kinds = range(-1, len(program) + 1), range(-1, len(table.kinds) + 1)
    enters = [("enter", host, kind) for host in hosts for kind in kinds]
    return enters + [("pass", host, kind, person) for host in hosts for kind in kinds
                     for person in range(-1, table.people + 1)]


def loosened(statements):
    """A program, or the statements of a host, with lists in the place of all rows and pairs."""
    if statements[0] == "send":
        return ("send", [list(flow) for flow in statements[1]], statements[2])
    if statements[0] == "again":
        return ("again", statements[1], loosened(statements[2]))
    return [loosened(part) for part in statements]


def plays(seed, many):
    """Tables without quick ties, trees and others, with programs of their kinds."""
    rule = random.Random(seed)
    for turn in range(many):
        if turn % 3:
            table = random_tree(rule, people=(2, 4), hands=(1, 3), kinds=(1, 5), quick=0, shares=0.3)
        else:
            table = random_web(rule, people=(2, 5), hands=(1, 2), kinds=(1, 5), quick=0)
        program = random_program(rule, range(len(table.kinds)), most=rule.choice((1, 3)))
        yield rule, table, program


class AgainstThePlainPlay(unittest.TestCase):
    def test_move_by_move(self):
        ends, depths = set(), set()
        for rule, table, program in plays(59, 120):
            play, told = Play(table, program), Told(table, program)
            self.assertEqual(shown_by(play, table, program), told.shown())
            while told.open_moves() and told.made < 80:
                move = rule.choice(told.open_moves())
                self.assertIsNone(play.move(move))
                told.move(move)
                shown = told.shown()
                self.assertEqual(shown_by(play, table, program), shown)
                depths.update(map(len, shown[1]))
            ends.add((shown[5], bool(shown[4]), bool(shown[0])))
        self.assertLessEqual({(True, False, False), (False, True, False), (False, False, True)}, ends)
        self.assertLessEqual({0, 1, 3, 5, 7}, depths)

    def test_reasons(self):
        reasons = set()
        for rule, table, program in plays(60, 60):
            play, told = Play(table, program), Told(table, program)
            for _ in range(25):
                before = shown_by(play, table, program)
                for move in all_moves(table, program):
                    reason = told.reason(move)
                    reasons.add((move[0], reason))
                    if reason is not None:
                        self.assertEqual(refused(play.move, move), cannot_move(reason))
                    self.assertEqual(reason is None, move in before[0])
                self.assertEqual(shown_by(play, table, program), before)
                if not before[0]:
                    break
                move = rule.choice(before[0])
                play.move(move)
                told.move(move)
        self.assertEqual(reasons, {("enter", reason) for reason in ("unknown", "send", "window", "hands", None)}
                         | {("pass", reason) for reason in ("unknown", "none", "hands", None)})

    def test_types(self):
        for _, table, program in plays(61, 10):
            play = Play(table, program)
            self.assertIs(type(play.open_moves()), list)
            self.assertEqual([type(play.position(0)), type(play.entered(0)), type(play.play_knot())], [tuple] * 3)
            self.assertIs(play.finished, False)
            play.open_moves().clear()
            self.assertEqual(play.open_moves(), Told(table, program).open_moves())


class Programs(unittest.TestCase):
    def play(self, text, table=None):
        return Play(table or Table([2, 2], [(0, 1)], PAIR), read_program(text))

    def run_round(self, play, *kinds):
        for kind in kinds:
            play.move(("enter", 0, kind))
            play.move(("pass", 0, kind, kind))

    def test_example(self):
        play = Play(Table([1, 1], [(0, 1)], [((0, 1), 0)]), read_program("host send 2 of 0 window 1"))
        play.move(("enter", 0, 0))
        self.assertEqual((play.open_moves(), play.position(0), play.entered(0)), ([("pass", 0, 0, 0)], (0,), (1,)))

    def test_agains_of_many_rounds(self):
        play = self.play(f"host again {HUGE} ( send 1 of 0 )")
        for over in range(40):
            self.assertEqual((play.position(0), play.entered(0)), ((0, over, 0), (0,)))
            play.move(("enter", 0, 0))
            self.assertEqual((play.position(0), play.entered(0)), ((0, over, 0), (1,)))
            play.move(("pass", 0, 0, 0))
        self.assertEqual((play.moves_made, play.finished), (80, False))

    def test_agains_in_agains(self):
        inner = f"again {HUGE} ( again 2 ( send 1 of 0 ; send 1 of 1 ) ; send 2 of 0 )"
        play = self.play(f"host send 1 of 1 ; again {HUGE} ( {inner} ; send 1 of 1 )")
        self.assertEqual(play.position(0), (0,))
        self.run_round(play, 1)
        for over in range(6):
            for again in range(2):
                self.assertEqual(play.position(0), (1, 0, 0, over, 0, again, 0))
                self.run_round(play, 0)
                self.assertEqual(play.position(0), (1, 0, 0, over, 0, again, 1))
                self.run_round(play, 1)
            self.assertEqual(play.position(0), (1, 0, 0, over, 1))
            self.run_round(play, 0)
            self.assertEqual((play.position(0), play.entered(0)), ((1, 0, 0, over, 1), (1,)))
            self.run_round(play, 0)
        self.assertEqual(play.position(0), (1, 0, 0, 6, 0, 0, 0))

    def test_rounds_end(self):
        play = self.play("host again 2 ( again 2 ( again 2 ( send 1 of 0 ) ) ) ; again 1 ( send 1 of 1 )")
        expected = [(0, one, 0, two, 0, three, 0) for one in range(2) for two in range(2) for three in range(2)]
        for position in expected:
            self.assertEqual(play.position(0), position)
            self.run_round(play, 0)
        self.assertEqual(play.position(0), (1, 0, 0))
        self.assertIs(play.finished, False)
        self.run_round(play, 1)
        self.assertEqual((play.position(0), play.entered(0), play.finished, play.moves_made), ((), (), True, 18))
        self.assertEqual(play.open_moves(), [])
        for move, reason in ((("enter", 0, 0), "send"), (("enter", 0, 1), "send"), (("pass", 0, 0, 0), "none")):
            self.assertEqual(refused(play.move, move), cannot_move(reason))

    def test_a_send_ends_when_all_is_put_down(self):
        """Not when all has entered, and not when nothing is on the way in between."""
        play = self.play("host send 2 of 0 and 1 of 1 ; send 1 of 0")
        self.run_round(play, 0, 0)
        self.assertEqual((play.position(0), play.entered(0)), ((0,), (2, 0)))
        self.assertEqual(refused(play.move, ("enter", 0, 0)), cannot_move("send"))
        play.move(("enter", 0, 1))
        self.assertEqual((play.position(0), play.entered(0)), ((0,), (2, 1)))
        self.assertEqual(refused(play.move, ("enter", 0, 0)), cannot_move("send"))
        play.move(("pass", 0, 1, 1))
        self.assertEqual((play.position(0), play.entered(0)), ((1,), (0,)))

    def test_flows_in_the_order_written(self):
        play = self.play("host send 2 of 1 and 3 of 0")
        self.assertEqual(play.open_moves(), [("enter", 0, 0), ("enter", 0, 1)])
        play.move(("enter", 0, 0))
        self.assertEqual(play.entered(0), (0, 1))
        play.move(("enter", 0, 1))
        play.move(("enter", 0, 1))
        self.assertEqual(play.entered(0), (2, 1))

    def test_windows(self):
        """A window is for both flows together, and each host has its own."""
        table = Table([4, 4], [(0, 1)], [((0, 1), 0), ((1, 0), 0)])
        play = self.play("host send 3 of 0 and 3 of 1 window 2\nhost send 5 of 0 window 1", table)
        play.move(("enter", 0, 0))
        play.move(("enter", 0, 1))
        for kind in (0, 1):
            self.assertEqual(refused(play.move, ("enter", 0, kind)), cannot_move("window"))
        play.move(("enter", 1, 0))
        self.assertEqual(refused(play.move, ("enter", 1, 0)), cannot_move("window"))
        self.assertEqual(play.open_moves(), [("pass", 0, 0, 0), ("pass", 0, 1, 1), ("pass", 1, 0, 0)])
        play.move(("pass", 0, 1, 1))
        self.assertEqual(play.open_moves()[:2], [("enter", 0, 0), ("enter", 0, 1)])
        play.move(("enter", 0, 0))
        self.assertEqual([play.held_by(person) for person in (0, 1)], [3, 0])
        self.assertEqual(refused(play.move, ("pass", 0, 1, 1)), cannot_move("none"))

    def test_a_window_wider_than_any_hands(self):
        play = self.play(f"host send {HUGE} of 0 window {HUGE}")
        play.move(("enter", 0, 0))
        play.move(("enter", 0, 0))
        self.assertEqual(refused(play.move, ("enter", 0, 0)), cannot_move("hands"))

    def test_mosts_and_shares_play_no_part(self):
        table = Table([4, 4], [(0, 1)], [((0, 1), 0), ((1, 0), 1)], shares=[((0, 1), 0)])
        play = self.play("host send 9 of 0 and 9 of 1\nhost send 9 of 0", table)
        for move in [("enter", 0, 0), ("enter", 1, 0)] * 2 + [("enter", 0, 1)] * 4:
            play.move(move)
        self.assertEqual((play.open_moves(), play.play_knot()), ([], (0, 1)))
        people = tuple(range(6))
        table = Table([4] * 6, list(zip(people, people[1:])), [(people, 0), (people[::-1], 0)])
        play = self.play("host send 99 of 0\nhost send 99 of 0\nhost send 99 of 1", table)
        for host, kind, way in ((0, 0, people[:3]), (2, 1, people[:2:-1])):
            for at in range(2, -1, -1):
                for _ in range(4):
                    play.move(("enter", host, kind))
                    for person in way[:at]:
                        play.move(("pass", host, kind, person))
        self.assertEqual(sum(play.held_by(person) for person in people), 24)
        self.assertEqual((play.play_knot(), play.open_moves()), (people, []))

    def test_dishes_of_different_hosts(self):
        play = self.play("host send 1 of 0\nhost send 1 of 0")
        play.move(("enter", 0, 0))
        self.assertEqual(refused(play.move, ("pass", 1, 0, 0)), cannot_move("none"))
        play.move(("enter", 1, 0))
        play.move(("pass", 1, 0, 0))
        self.assertEqual((play.position(0), play.position(1)), ((0,), ()))
        self.assertEqual((play.held_by(0), play.finished), (1, False))
        play.move(("pass", 0, 0, 0))
        self.assertEqual((play.position(0), play.finished, play.moves_made), ((), True, 4))

    def test_the_end_of_a_way_needs_a_free_hand(self):
        table = Table([1, 1], [(0, 1)], PAIR)
        play = self.play("host send 1 of 0 and 1 of 1", table)
        play.move(("enter", 0, 0))
        play.move(("enter", 0, 1))
        for kind in (0, 1):
            self.assertEqual(refused(play.move, ("pass", 0, kind, kind)), cannot_move("hands"))
        self.assertEqual(play.play_knot(), (0, 1))

    def test_programs_in_any_form(self):
        for rule, table, program in plays(65, 20):
            play, given = Play(table, program), loosened(program)
            before = copy.deepcopy(given)
            other = Play(table, given)
            while play.open_moves() and play.moves_made < 40:
                move = rule.choice(play.open_moves())
                play.move(move)
                other.move(move)
                self.assertEqual(shown_by(other, table, program), shown_by(play, table, program))
            self.assertEqual(given, before)

    def test_lists_changed_later(self):
        table = Table([2, 2], [(0, 1)], PAIR)
        flows = [[1, 0]]
        body = [("send", flows, None)]
        program = [[("again", 2, body)]]
        play = Play(table, program)
        flows[0][0] = 9
        body.append(("send", [(1, 1)], None))
        program[0].append(("send", [(1, 1)], None))
        program.append(program[0])
        for over in range(2):
            self.assertEqual(play.position(0), (0, over, 0))
            self.run_round(play, 0)
        self.assertIs(play.finished, True)
        self.assertEqual(refused(play.position, 1), no_such("host"))

    def test_the_table_stays_as_it_is(self):
        for _, table, program in plays(62, 10):
            before = fields(table)
            play = Play(table, program)
            play.move(play.open_moves()[0])
            self.assertEqual(fields(table), before)


class Ends(unittest.TestCase):
    def test_safe_programs_finish_in_every_order(self):
        rule = random.Random(63)
        finished = 0
        for _ in range(150):
            table = random_tree(rule, people=(2, 4), hands=(1, 3), kinds=(1, 3), quick=0)
            program = random_program(rule, range(len(table.kinds)), most=2)
            if any(judge(choice_table(table, program, choice)).STUCK for choice in choices(program)):
                continue
            finished += 1
            total = total_moves(table, program)
            for turn in range(2):
                play = Play(table, program)
                while play.open_moves():
                    moves = play.open_moves()
                    # Once as many dishes as can be at once, once in any order.
                    play.move(rule.choice(moves) if turn else moves[0])
                    self.assertEqual(play.play_knot(), ())
                self.assertEqual((play.finished, play.moves_made), (True, total))
        self.assertGreater(finished, 40)

    def test_schedules_to_a_knot(self):
        rule = random.Random(64)
        knots = 0
        for _ in range(150):
            table = random_tree(rule, people=(2, 4), hands=(1, 2), kinds=(2, 5), quick=0)
            program = random_program(rule, range(len(table.kinds)), most=rule.choice((3, 8)))
            moves = moves_to_knot(table, program)
            if moves is not None and moves <= 200:
                knots += 1
                play = Play(table, program)
                for move in schedule_to_knot(table, program):
                    self.assertEqual(play.play_knot(), ())
                    play.move(move)
                self.assertTrue(play.play_knot())
                self.assertEqual(play.moves_made, moves)
                while play.open_moves():
                    play.move(rule.choice(play.open_moves()))
                self.assertTrue(play.play_knot())
                self.assertIs(play.finished, False)
        self.assertGreater(knots, 40)

    def test_on_other_webs(self):
        """A play is for any table without quick ties."""
        table = Table([1, 1, 1], RING, [((0, 1, 2), 0), ((1, 2, 0), 0), ((2, 0, 1), 0)])
        play = Play(table, read_program("host send 1 of 0 and 1 of 1\nhost send 1 of 2"))
        for move in (("enter", 0, 0), ("enter", 0, 1), ("enter", 1, 2)):
            play.move(move)
        self.assertEqual((play.play_knot(), play.open_moves()), ((0, 1, 2), []))


class Errors(unittest.TestCase):
    def test_building(self):
        slow, quick = Table([1, 1], [(0, 1)], PAIR), Table([1, 1], [(0, 1)], PAIR, quick=[(0, 1)])
        good, bad = read_program("host send 1 of 1"), read_program("host send 1 of 0\nhost again 2 ( send 1 of 2 )")
        self.assertIsNone(refused(Play, slow, good))
        self.assertEqual(refused(Play, slow, bad), no_such("kind"))
        self.assertEqual(refused(Play, quick, bad), no_such("kind"))
        self.assertEqual(refused(Play, quick, good), NO_QUICK)

    def test_no_such(self):
        play = Play(Table([1, 1], [(0, 1)], PAIR), read_program("host send 1 of 1\nhost send 1 of 0"))
        for wrong in (-1, 2, FAR, -FAR):
            self.assertEqual(refused(play.position, wrong), no_such("host"))
            self.assertEqual(refused(play.entered, wrong), no_such("host"))
            self.assertEqual(refused(play.held_by, wrong), no_such("person"))
            for move in (("enter", wrong, 0), ("enter", 0, wrong), ("pass", wrong, 0, 0), ("pass", 0, wrong, 0),
                         ("pass", 0, 0, wrong)):
                self.assertEqual(refused(play.move, move), cannot_move("unknown"))
        self.assertEqual(play.moves_made, 0)
