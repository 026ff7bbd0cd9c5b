import copy
import itertools
import random
import unittest

from fullhands.ground.table import Table
from fullhands.hosts.choice import choice_table, choices, first_moves, total_moves
from fullhands.hosts.program import read_program
from tests.hosts import HUGE, flat, random_program, random_programs, unrolled
from tests.search import random_tree
from tests.support import fields, no_such, refused
from tests.test_program import thawed_program

FAR = 10 ** 40
ROW = [(0, 1), (1, 2)]
RING = [(0, 1), (1, 2), (0, 2)]


def table():
    """Dishes of kind 0 make 3 moves, those of the other kinds 2."""
    kinds = [((0, 1, 2), 0), ((2, 1), 5), ((1, 0), 24)]
    return Table([1, 2, 3], ROW, kinds, quick=[(0, 1)], shares=[((0, 1), 1)])


def every(program):
    return list(choices(program))


class Choices(unittest.TestCase):
    def test_tuple_order(self):
        for program in random_programs(61, 100):
            expected = list(itertools.product(*[range(len(flat(host))) for host in program]))
            self.assertEqual(every(program), expected)
            self.assertEqual(every(thawed_program(program)), expected)
            self.assertEqual(expected, sorted(expected))

    def test_three_hosts(self):
        program = read_program("host send 1 of 0 ; send 1 of 1\nhost send 1 of 0\n"
                               "host again 9 ( again 2 ( send 1 of 2 ; send 1 of 0 ) ) ; send 1 of 5")
        self.assertEqual(every(program), [(0, 0, 0), (0, 0, 1), (0, 0, 2), (1, 0, 0), (1, 0, 1), (1, 0, 2)])

    def test_one_host(self):
        self.assertEqual(every(read_program("host send 1 of 0")), [(0,)])


class ChoiceTable(unittest.TestCase):
    def check(self, ground, program, choice):
        found = choice_table(ground, program, choice)
        chosen = [flat(host)[send] for host, send in zip(program, choice)]
        kinds, shares = [], []
        for _, flows, window in chosen:
            members = []
            for many, kind in flows:
                members.append(len(kinds))
                kinds.append((ground.kinds[kind][0], min(many, 24)))
            if window is not None:
                shares.append((tuple(members), min(window, 24)))
        self.assertEqual(fields(found), (ground.hands, ground.ties, tuple(kinds), (), tuple(shares)))

    def test_counts_and_windows(self):
        numbers = (1, 23, 24, 25, HUGE)
        for one, other, window in itertools.product(numbers, numbers, numbers + (None,)):
            program = ((("send", ((one, 2), (other, 0)), window),), (("send", ((other, 1),), window),))
            self.check(table(), program, (0, 0))

    def test_example(self):
        text = "host send 30 of 1 and 2 of 0 window 25 ; send 9 of 2\n" \
               "host again 4 ( send 7 of 0 ; send 24 of 1 window 3 )"
        found = choice_table(table(), read_program(text), (0, 1))
        kinds = (((2, 1), 24), ((0, 1, 2), 2), ((2, 1), 24))
        self.assertEqual(fields(found), ((1, 2, 3), ((0, 1), (1, 2)), kinds, (), (((0, 1), 24), ((2,), 3))))
        found = choice_table(table(), read_program(text), [1, 0])
        self.assertEqual(fields(found)[2:], ((((1, 0), 9), ((0, 1, 2), 7)), (), ()))

    def test_all_choices(self):
        rule = random.Random(62)
        for _ in range(100):
            ground = random_tree(rule, people=(2, 5), kinds=(2, 6), quick=0.3)
            program = random_program(rule, range(len(ground.kinds)), most=rule.choice((3, 30)))
            for choice in every(program):
                self.check(ground, program, choice)
                given = (thawed_program(program), list(choice))
                before = copy.deepcopy(given)
                self.assertEqual(fields(choice_table(ground, *given)), fields(choice_table(ground, program, choice)))
                self.assertEqual(given, before)

    def test_any_table(self):
        ground = Table([1, 1, 2], RING, [((0, 1, 2), 1), ((2, 0), 1)], quick=RING)
        self.check(ground, read_program("host send 3 of 1 and 4 of 0 window 2\nhost send 1 of 1"), (0, 0))

    def test_strange_choices(self):
        """Ahead of kinds that the table does not have."""
        for text in ("host send 1 of 0 ; send 1 of 1\nhost send 1 of 2",
                     "host send 1 of 5 ; send 1 of 1\nhost send 1 of 4"):
            program = read_program(text)
            for choice in ((), (0,), (0, 0, 0), (2, 0), (0, 1), (-1, 0), (0, -1), (-2, 0), (FAR, 0), (0, -FAR)):
                for form in (tuple, list):
                    self.assertEqual(refused(choice_table, table(), program, form(choice)), no_such("choice"), choice)

    def test_strange_kinds(self):
        """Also in sends that are not chosen, within agains, and in second flows."""
        for text in ("host send 1 of 3", "host send 1 of 0 and 1 of 3", "host send 1 of 0 ; send 1 of 5",
                     "host send 1 of 0\nhost again 2 ( again 3 ( send 1 of 0 ; send 1 of 2 and 1 of 4 ) )"):
            program = read_program(text)
            for choice in every(program):
                self.assertEqual(refused(choice_table, table(), program, choice), no_such("kind"))
        self.assertIsNone(refused(choice_table, table(), read_program("host send 1 of 2"), (0,)))
        program = read_program("host send 1 of 0")
        self.assertEqual(refused(choice_table, Table([1], [], []), program, (0,)), no_such("kind"))


class Moves(unittest.TestCase):
    def test_by_executing_everything(self):
        rule = random.Random(59)
        for _ in range(150):
            ground = random_tree(rule, people=(2, 5), kinds=(2, 6))
            program = random_program(rule, range(len(ground.kinds)))
            total = 0
            for host, statements in enumerate(program):
                moves, begun = 0, {}
                for number, (_, flows, _) in unrolled(statements):
                    begun.setdefault(number, moves)
                    moves += sum(many * len(ground.kinds[kind][0]) for many, kind in flows)
                total += moves
                self.assertEqual(sorted(begun), list(range(len(flat(statements)))))
                for number, before in begun.items():
                    self.assertEqual(first_moves(ground, program, host, number), before)
                    self.assertEqual(first_moves(ground, thawed_program(program), host, number), before)
            self.assertEqual(total_moves(ground, program), total)
            self.assertEqual(total_moves(ground, thawed_program(program)), total)

    def test_agains_in_agains(self):
        text = "host send 2 of 0 ; again 5 ( send 1 of 1 ; again 7 ( send 3 of 2 and 1 of 0 window 1 ; " \
               "send 1 of 0 ) ) ; send 1 of 2\nhost again 2 ( send 1 of 0 )"
        program = read_program(text)
        inner = 7 * (3 * 2 + 3 + 3)
        self.assertEqual([first_moves(table(), program, 0, send) for send in range(5)],
                         [0, 6, 6 + 2, 6 + 2 + 9, 6 + 5 * (2 + inner)])
        self.assertEqual(first_moves(table(), program, 1, 0), 0)
        self.assertEqual(total_moves(table(), program), 6 + 5 * (2 + inner) + 2 + 6)

    def test_great_rounds(self):
        text = f"host again {HUGE} ( again {HUGE} ( again {HUGE} ( send {HUGE} of 0 ) ; send 1 of 1 ) ) ; send 1 of 1"
        program = read_program(text)
        self.assertEqual(first_moves(table(), program, 0, 1), 3 * HUGE ** 2)
        self.assertEqual(first_moves(table(), program, 0, 2), HUGE ** 2 * (3 * HUGE ** 2 + 2))
        self.assertEqual(total_moves(table(), program), HUGE ** 2 * (3 * HUGE ** 2 + 2) + 2)

    def test_windows_and_mosts_play_no_part(self):
        program = read_program("host send 9 of 0 window 1 ; send 1 of 0")
        self.assertEqual((first_moves(table(), program, 0, 1), total_moves(table(), program)), (27, 30))

    def test_any_table(self):
        ground = Table([1, 1, 2], RING, [((0, 1, 2), 1), ((2, 0), 1)], quick=RING)
        program = read_program("host send 3 of 1 ; send 2 of 0")
        self.assertEqual((first_moves(ground, program, 0, 1), total_moves(ground, program)), (6, 12))

    def test_example(self):
        ground = Table([1, 1], [(0, 1)], [((0, 1), 0)])
        program = read_program("host again 1000 ( send 2 of 0 ; send 1 of 0 )")
        self.assertEqual((first_moves(ground, program, 0, 1), total_moves(ground, program)), (4, 6000))

    def test_order_of_errors(self):
        text = "host send 1 of 0 ; again 2 ( send 1 of 1 )\nhost send 1 of 2"
        good, bad = read_program(text), read_program(text + " ; again 2 ( send 1 of 0 and 1 of 3 )")
        for program in (good, bad):
            for host in (-1, 2, FAR, -FAR):
                for send in (-1, 0, 5, FAR):
                    self.assertEqual(refused(first_moves, table(), program, host, send), no_such("host"))
            for send in (-1, 2, FAR, -FAR):
                self.assertEqual(refused(first_moves, table(), program, 0, send), no_such("send"))
        self.assertEqual(refused(first_moves, table(), good, 1, 1), no_such("send"))
        for host, send in ((0, 0), (0, 1), (1, 0), (1, 1)):
            self.assertEqual(refused(first_moves, table(), bad, host, send), no_such("kind"))
        self.assertEqual(refused(total_moves, table(), bad), no_such("kind"))
        self.assertIsNone(refused(total_moves, table(), good))
        self.assertEqual(refused(total_moves, Table([1], [], []), good), no_such("kind"))
