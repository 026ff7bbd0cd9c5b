import copy
import functools
import random
import unittest

from fullhands.ground.table import Table
from fullhands.hosts.choice import choice_table, choices, first_moves, total_moves
from fullhands.hosts.judge import judge_program, moves_to_knot, schedule_to_knot
from fullhands.hosts.program import read_program
from tests.hosts import HUGE, HostPlay, random_program
from tests.search import Search, random_tree
from tests.support import fields, no_such, refused
from tests.test_judge import NO_TREE, RING, Checks
from tests.test_program import thawed_program, too_great

NO_QUICK = ("WrongGround", ("needed", "no quick"))
ROW = [(0, 1), (1, 2)]


@functools.cache
def played():
    """Small trees with small programs, and all that can happen when these are played on them."""
    rule = random.Random(66)
    found = []
    while len(found) < 300:
        table = random_tree(rule, people=(2, 4), kinds=(2, 4), quick=0, most=2)
        program = random_program(rule, range(len(table.kinds)), hosts=(1, 3), depth=2, most=2, rounds=2, sends=4)
        # The number of states grows with the moves.
        if total_moves(table, program) <= 40:
            found.append((table, program, HostPlay(table, program)))
    return [(table, program, play, play.moves_to_knot()) for table, program, play in found]


class AgainstAllSchedules(Checks):
    def test_judge_program(self):
        found = set()
        for table, program, _, moves in played():
            verdict = judge_program(table, program)
            found.add((moves is None, len(program)))
            self.assertEqual(verdict is None, moves is None, program)
            if verdict is not None:
                choice, stuck = verdict
                self.assertIsInstance(verdict, tuple)
                every = list(choices(program))
                could = [bool(Search(choice_table(table, program, one)).doomed()) for one in every]
                self.assertEqual(choice, every[could.index(True)])
                self.check_stuck(choice_table(table, program, choice), stuck)
        self.assertEqual(len(found), 6)

    def test_moves_to_knot(self):
        for table, program, _, moves in played():
            self.assertEqual(moves_to_knot(table, program), moves, (fields(table), program))

    def test_schedule_to_knot(self):
        lengths = set()
        for table, program, play, moves in played():
            schedule = schedule_to_knot(table, program)
            if moves is None:
                self.assertIsNone(schedule)
            else:
                lengths.add(moves)
                self.assertIsInstance(schedule, list)
                self.assertEqual(len(schedule), moves)
                self.assertTrue(play.has_knot(play.after(schedule)))
        self.assertGreater(max(lengths), 8)

    def test_a_safe_program_can_be_played_to_its_end(self):
        for table, program, play, moves in played():
            if moves is None:
                ended = [state for state in play.reached if not list(play.steps(state))]
                self.assertEqual(len(ended), 1)
                self.assertEqual([host[0] for host in ended[0]], [len(host) for host in play.hosts])

    def test_lists(self):
        for table, program, _, _ in played()[:40]:
            given = thawed_program(program)
            before = copy.deepcopy(given)
            self.assertEqual(moves_to_knot(table, given), moves_to_knot(table, program))
            self.assertEqual(schedule_to_knot(table, given), schedule_to_knot(table, program))
            self.assertEqual(judge_program(table, given) is None, judge_program(table, program) is None)
            self.assertEqual(given, before)


class SomePrograms(Checks):
    def pair(self, hands=(1, 1)):
        return Table(hands, [(0, 1)], [((0, 1), 0), ((1, 0), 0)], shares=[((0, 1), 0)])

    def test_two_hosts(self):
        """The mosts and the shares of the table play no part."""
        program = read_program("host send 1 of 0\nhost send 1 of 1")
        choice, verdict = judge_program(self.pair(), program)
        self.assertEqual((choice, verdict.lot), ((0, 0), (0, 1)))
        self.assertEqual(moves_to_knot(self.pair(), program), 2)
        schedule = schedule_to_knot(self.pair(), program)
        self.assertEqual(sorted(schedule), [("enter", 0, 0), ("enter", 1, 1)])
        self.assertIsNone(judge_program(self.pair((2, 1)), program))
        self.assertIsNone(moves_to_knot(self.pair((2, 1)), program))
        self.assertIsNone(schedule_to_knot(self.pair((2, 1)), program))

    def test_one_host_with_two_sends_one_after_another(self):
        self.assertIsNone(judge_program(self.pair(), read_program("host send 9 of 0 ; send 9 of 1")))
        self.assertIsNotNone(judge_program(self.pair(), read_program("host send 9 of 0 and 9 of 1")))
        self.assertIsNone(judge_program(self.pair(), read_program("host send 9 of 0 and 9 of 1 window 1")))

    def test_kinds_of_two_hosts_are_told_apart(self):
        program = read_program("host send 1 of 0\nhost send 1 of 0\nhost send 1 of 1")
        table = self.pair((2, 1))
        self.assertEqual(moves_to_knot(table, program), 3)
        schedule = schedule_to_knot(table, program)
        self.assertEqual(sorted(schedule), [("enter", 0, 0), ("enter", 1, 0), ("enter", 2, 1)])

    def test_the_first_choice_and_the_quickest_one(self):
        text = "host send 5 of 0 ; send 1 of 1\nhost send 4 of 0 ; send 1 of 1 ; send 1 of 0"
        program = read_program(text)
        choice, verdict = judge_program(self.pair(), program)
        self.assertEqual(choice, (0, 1))
        self.check_stuck(choice_table(self.pair(), program, choice), verdict)
        self.assertEqual(moves_to_knot(self.pair(), program), 8 + 2)
        play = HostPlay(self.pair(), program)
        self.assertTrue(play.has_knot(play.after(schedule_to_knot(self.pair(), program))))
        program = read_program("host send 5 of 0 ; send 1 of 1\nhost send 7 of 0 ; send 1 of 1")
        self.assertEqual(judge_program(self.pair(), program)[0], (0, 1))
        self.assertEqual(moves_to_knot(self.pair(), program), 10 + 2)
        self.assertEqual(schedule_to_knot(self.pair(), program)[:2], [("enter", 0, 0), ("pass", 0, 0, 0)])

    def test_counts_beyond_the_mosts_of_tables(self):
        kinds = [((0, 1, 2), 0), ((2, 1, 0), 0)]
        table = Table([4, 4, 4], ROW, kinds)
        for window in ("", f" window {HUGE}", " window 12"):
            program = read_program(f"host send {HUGE} of 0 and {HUGE} of 1{window}")
            self.assertEqual(judge_program(table, program)[0], (0,))
            self.assertEqual(moves_to_knot(table, program), 4 + 4 * 2)
        self.assertIsNone(judge_program(table, read_program(f"host send {HUGE} of 0 and {HUGE} of 1 window 7")))
        self.assertEqual(moves_to_knot(table, read_program(f"host send {HUGE} of 0 and {HUGE} of 1 window 8")), 12)

    def test_moves_up_to_two_hundred(self):
        """The first send makes 2 moves for each dish, and the knot takes 2."""
        for many, expected in ((98, 198), (99, 200), (100, 202), (HUGE, 2 * HUGE + 2)):
            for text in (f"host send {many} of 0 ; send 1 of 1\nhost send 1 of 0",
                         f"host again {many} ( send 1 of 1 ) ; send 1 of 0\nhost send 1 of 1",
                         f"host send 1 of 1\nhost again {many} ( send 1 of 1 ) ; send 1 of 0"):
                program = read_program(text)
                self.assertEqual(moves_to_knot(self.pair(), program), expected)
                if expected > 200:
                    self.assertEqual(refused(schedule_to_knot, self.pair(), program), too_great("moves"))
                else:
                    schedule = schedule_to_knot(self.pair(), program)
                    self.assertEqual(len(schedule), expected)
                    play = HostPlay(self.pair(), program)
                    self.assertTrue(play.has_knot(play.after(schedule)))

    def test_an_odd_number_of_moves(self):
        """Kind 2 makes 3 moves for each dish, so that 201 moves are needed."""
        table = Table([1, 1, 1], ROW, [((0, 1), 0), ((1, 0), 0), ((0, 1, 2), 0)])
        for before, expected in (("send 63 of 2 ; send 4 of 0", 199), ("send 66 of 2", 200),
                                 ("send 65 of 2 ; send 2 of 0", 201)):
            program = read_program(f"host {before} ; send 1 of 1\nhost send 1 of 0")
            self.assertEqual(moves_to_knot(table, program), expected)
            expected_error = too_great("moves") if expected > 200 else None
            self.assertEqual(refused(schedule_to_knot, table, program), expected_error)

    def test_no_knot_is_no_error(self):
        program = read_program(f"host send {HUGE} of 0")
        self.assertIsNone(schedule_to_knot(self.pair(), program))
        self.assertIsNone(moves_to_knot(self.pair(), program))

    def test_agains_before(self):
        """Only the first round of the agains around the chosen send."""
        table = Table([1, 1, 1], ROW, [((0, 1, 2), 0), ((2, 1, 0), 0), ((1, 2), 0)])
        text = "host again 3 ( again 2 ( send 1 of 2 ) ; again 4 ( send 2 of 2 ; send 1 of 1 ) )\nhost send 1 of 0"
        program = read_program(text)
        self.assertEqual(first_moves(table, program, 0, 2), 4 + 4)
        self.assertEqual(moves_to_knot(table, program), 4 + 4 + 3)
        schedule = schedule_to_knot(table, program)
        play = HostPlay(table, program)
        self.assertEqual(len(schedule), 11)
        self.assertTrue(play.has_knot(play.after(schedule)))

    def test_one_person_alone(self):
        """No kind can have a way, so that no program can be played."""
        self.assertEqual(refused(judge_program, Table([1], [], []), read_program("host send 1 of 0")), no_such("kind"))

    def test_order_of_errors(self):
        kinds = [((0, 1), 1), ((1, 0), 1)]
        good = read_program("host send 1 of 1")
        bad = read_program("host send 1 of 0 ; again 2 ( send 1 of 0 and 1 of 2 )")
        ring = Table([1, 1, 1], RING, kinds, quick=RING)
        for call in (judge_program, moves_to_knot, schedule_to_knot):
            for table in (ring, Table([1, 1, 1], RING, kinds), Table([1, 1], [(0, 1)], kinds),
                          Table([1, 1], [(0, 1)], kinds, quick=[(0, 1)])):
                self.assertEqual(refused(call, table, bad), no_such("kind"))
            self.assertEqual(refused(call, ring, good), NO_TREE)
            self.assertEqual(refused(call, Table([1, 1, 1], RING, kinds), good), NO_TREE)
            self.assertEqual(refused(call, Table([1, 1], [(0, 1)], kinds, quick=[(0, 1)]), good), NO_QUICK)
            self.assertEqual(refused(call, Table([1, 1, 1], ROW, kinds, quick=[(1, 2)]), good), NO_QUICK)
            self.assertIsNone(refused(call, Table([1, 1], [(0, 1)], kinds), good))

    def test_arguments_stay_as_they_are(self):
        table, program = self.pair(), read_program("host send 1 of 0\nhost send 1 of 1")
        before = fields(table)
        schedule_to_knot(table, program).clear()
        self.assertEqual(len(schedule_to_knot(table, program)), 2)
        self.assertEqual(fields(table), before)
