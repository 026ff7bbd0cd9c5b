import unittest

from fullhands.ground.table import Table
from fullhands.moves.run import play, read_run, run_effort, run_text, trace
from fullhands.moves.standing import Standing
from tests.model import Model, small_tables
from tests.support import bad_text, cannot_move, refused

RUN = [("enter", 0), ("pass", 0, 0), ("enter", 0), ("enter", 1)]
PLACES = [((1, 0), (0,)), ((0, 1), (0,)), ((1, 1), (0,)), ((1, 1), (1,))]


def table():
    return Table([1, 2, 1], [(0, 1), (1, 2)], [((0, 1, 2), 3), ((2, 1), 1)])


def quick_table():
    return Table([1, 1, 1], [(0, 1), (1, 2)], [((0, 1, 2), 2), ((2, 1, 0), 2)], quick=[(0, 1)])


def begin():
    return Standing.empty(table())


def all_traced(standing, run):
    return [later.places for later in trace(standing, run)]


class RunsThatCanBeMade(unittest.TestCase):
    def test_play(self):
        for form in (list, tuple):
            standing = begin()
            later = play(standing, form(RUN))
            self.assertIsInstance(later, Standing)
            self.assertIs(later.table, standing.table)
            self.assertEqual((later.places, standing.places), (PLACES[-1], ((0, 0), (0,))))

    def test_trace(self):
        for form in (list, tuple):
            standing = begin()
            found = list(trace(standing, form(RUN)))
            self.assertEqual([later.places for later in found], PLACES)
            self.assertEqual([later.table for later in found], [standing.table] * 4)
            self.assertEqual(standing.places, ((0, 0), (0,)))

    def test_from_another_standing(self):
        standing = Standing(table(), ((1, 1), (0,)))
        run = [("pass", 0, 1), ("pass", 0, 0), ("enter", 0)]
        places = [((1, 0), (0,)), ((0, 1), (0,)), ((1, 1), (0,))]
        self.assertEqual(all_traced(standing, run), places)
        self.assertEqual(play(standing, run).places, places[-1])

    def test_empty_run(self):
        for standing in (begin(), Standing(table(), ((1, 0), (1,))), Standing.empty(Table([1], [], []))):
            for run in ([], ()):
                self.assertEqual(play(standing, run).places, standing.places)
                self.assertIs(play(standing, run).table, standing.table)
                self.assertEqual(list(trace(standing, run)), [])

    def test_swap(self):
        run = [("enter", 0), ("enter", 1), ("pass", 1, 2), ("swap", 0, 0, 1, 1), ("pass", 0, 1)]
        places = [((1, 0), (0, 0)), ((1, 0), (1, 0)), ((1, 0), (0, 1)), ((0, 1), (0, 0)), ((0, 0), (0, 0))]
        standing = Standing.empty(quick_table())
        self.assertEqual(all_traced(standing, run), places)
        self.assertEqual(play(standing, run).places, places[-1])

    def test_runs_of_small_tables(self):
        """In each standing the move is taken whose turn it is, so that all forms come in turns."""
        forms = set()
        for ground in small_tables():
            model = Model(ground)
            places, run, expected = model.empty(), [], []
            for turn in range(60):
                steps = model.steps(places, True)
                if not steps:
                    break
                move, places = steps[turn * 7 % len(steps)]
                run.append(move)
                expected.append(places)
            forms.update([move[0] for move in run])
            self.assertEqual(all_traced(Standing.empty(ground), run), expected)
            self.assertEqual(play(Standing.empty(ground), run).places, (expected or [model.empty()])[-1])
        self.assertEqual(forms, {"enter", "pass", "swap"})

    def test_arguments_stay_as_they_are(self):
        run = list(RUN)
        play(begin(), run)
        list(trace(begin(), run))
        self.assertEqual(run, RUN)


class RunsThatCannotBeMade(unittest.TestCase):
    def check(self, standing, run, reason):
        """The last but one move of the run cannot be made; the one behind it is not looked at."""
        expected = cannot_move(reason, index=len(run) - 2)
        for form in (list, tuple):
            self.assertEqual(refused(play, standing, form(run)), expected, run)
            self.assertEqual(refused(all_traced, standing, form(run)), expected, run)

    def test_each_reason(self):
        after_run = [
            (("enter", 2), "unknown"), (("enter", -1), "unknown"), (("enter", 10 ** 40), "unknown"),
            (("enter", 1), "most"), (("enter", 0), "hands"),
            (("pass", 2, 0), "unknown"), (("pass", 0, 3), "unknown"), (("pass", 0, -1), "unknown"),
            (("pass", 0, 2), "none"), (("pass", 1, 1), "none"), (("pass", 1, 2), None),
            (("swap", 0, 0, 1, 1), "tie"), (("swap", 0, 1, 1, 0), "unknown"), (("swap", 0, 0, 2, 1), "unknown"),
        ]
        for move, reason in after_run:
            if reason is None:
                self.assertEqual(len(all_traced(begin(), RUN + [move])), 5)
            else:
                self.check(begin(), RUN + [move, ("enter", -1)], reason)

    def test_share(self):
        ground = Table([4, 1], [(0, 1)], [((0, 1), 4), ((1, 0), 4)], shares=[((0, 1), 2)])
        self.check(Standing.empty(ground), [("enter", 0), ("enter", 1), ("enter", 0), ("enter", 9)], "share")

    def test_hands_and_none(self):
        standing = Standing.empty(quick_table())
        run = [("enter", 0), ("enter", 1), ("pass", 1, 2)]
        self.check(standing, run + [("pass", 0, 0), ("enter", 0)], "hands")
        self.check(standing, run + [("swap", 1, 0, 0, 1), ("enter", 0)], "none")
        self.check(standing, run + [("swap", 0, 1, 1, 2), ("enter", 0)], "tie")

    def test_first_move(self):
        self.check(begin(), [("pass", 0, 0), ("enter", 0)], "none")
        self.check(begin(), [("enter", 5), ("enter", 6)], "unknown")
        self.assertEqual(refused(play, begin(), [("enter", 5)]), cannot_move("unknown"))

    def test_of_two_such_moves_the_first_one_counts(self):
        run = [("enter", 1), ("enter", 1), ("enter", 9)]
        self.assertEqual(refused(play, begin(), run), cannot_move("most", index=1))

    def test_index_of_a_late_move(self):
        ground = Table([1, 1], [(0, 1)], [((0, 1), 1)])
        run = [("enter", 0), ("pass", 0, 0)] * 300
        self.assertEqual(play(Standing.empty(ground), run).places, ((0,),))
        run = run + [("pass", 0, 0)]
        self.assertEqual(refused(play, Standing.empty(ground), run), cannot_move("none", index=600))

    def test_example(self):
        run = [("enter", 0), ("enter", 1), ("enter", 0)]
        self.assertEqual(refused(play, begin(), run), cannot_move("hands", index=2))

    def test_trace_only_when_it_comes_to_the_move(self):
        steps = trace(begin(), RUN + [("enter", 1), ("enter", 0)])
        self.assertIs(iter(steps), steps)
        self.assertEqual([next(steps).places for _ in RUN], PLACES)
        self.assertEqual(refused(next, steps), cannot_move("most", index=4))
        self.assertEqual(list(steps), [])

    def test_trace_raises_nothing_before_it_is_iterated(self):
        steps = trace(begin(), [("enter", 9)])
        self.assertEqual(refused(next, steps), cannot_move("unknown"))

    def test_traces_do_not_disturb_each_other(self):
        standing = begin()
        found = [(one.places, other.places) for one, other in zip(trace(standing, RUN), trace(standing, RUN))]
        self.assertEqual(found, [(places, places) for places in PLACES])

    def test_a_list_that_is_changed_under_way(self):
        run = list(RUN)
        steps = trace(begin(), run)
        found = [next(steps).places]
        run[1:] = [("enter", 9)]
        found.extend([later.places for later in steps])
        self.assertEqual(found, PLACES)


class Effort(unittest.TestCase):
    def test_sum(self):
        self.assertEqual(run_effort([]), 0)
        self.assertEqual(run_effort(()), 0)
        self.assertEqual(run_effort(RUN), 4)
        self.assertEqual(run_effort([("enter", 3)]), 1)
        self.assertEqual(run_effort([("pass", 3, 1)]), 1)
        self.assertEqual(run_effort([("swap", 0, 0, 1, 1)]), 2)
        self.assertEqual(run_effort((("swap", 0, 0, 1, 1), ("enter", 0), ("swap", 1, 2, 0, 3), ("pass", 1, 1))), 6)

    def test_whether_the_moves_can_be_made_plays_no_part(self):
        self.assertEqual(run_effort([("enter", -7), ("pass", 10 ** 40, 0), ("swap", 1, 1, 1, 1)]), 4)


class Text(unittest.TestCase):
    def test_all_forms(self):
        run = [("enter", 0), ("pass", 12, 3), ("swap", 4, 0, 99, 10), ("enter", 99)]
        text = "enter 0\npass 12 3\nswap 4 0 99 10\nenter 99"
        self.assertEqual(run_text(run), text)
        self.assertEqual(run_text(tuple(run)), text)
        self.assertEqual(read_run(text), run)

    def test_one_move(self):
        for move, text in ((("enter", 7), "enter 7"), (("pass", 1, 20), "pass 1 20"),
                           (("swap", 1, 2, 3, 4), "swap 1 2 3 4")):
            self.assertEqual(run_text([move]), text)
            self.assertEqual(read_run(text), [move])

    def test_without_moves(self):
        self.assertEqual(run_text([]), "")
        self.assertEqual(run_text(()), "")
        self.assertEqual(read_run(""), [])

    def test_all_numbers(self):
        run = [("swap", number, 99 - number, number // 2, 0) for number in range(100)]
        run += [("enter", number) for number in range(100)] + [("pass", 0, number) for number in range(100)]
        self.assertEqual(read_run(run_text(run)), run)

    def test_a_list_of_tuples_of_numbers(self):
        found = read_run("enter 1\npass 0 0")
        self.assertIsInstance(found, list)
        self.assertEqual([(move.__class__, [part.__class__ for part in move]) for move in found],
                         [(tuple, [str, int]), (tuple, [str, int, int])])

    def test_what_is_returned_is_not_shared(self):
        for text, run in (("", []), ("enter 1", [("enter", 1)])):
            read_run(text).append(("enter", 5))
            self.assertEqual(read_run(text), run)

    def test_whether_the_moves_can_be_made_plays_no_part(self):
        self.assertEqual(read_run("swap 9 9 9 9\npass 99 99"), [("swap", 9, 9, 9, 9), ("pass", 99, 99)])

    def test_wrong_lines(self):
        wrong = [
            "", " ", "enter", "enter ", "enter 0 0", "enter  0", " enter 0", "enter 0 ", "enter 00", "enter 01",
            "enter 100", "enter -1", "enter +1", "enter x", "enter 1.0", "enter 1_0", "Enter 0", "enter0", "enter\t0",
            "pass", "pass 0", "pass 0 0 0", "pass 0  0", "pass  0 0", "pass 0 0 ", " pass 0 0", "pass 00 0", "pass 0 00",
            "pass 0 100", "pass 0 x", "pass x 0", "pass 0 -1", "PASS 0 0", "pass 0,0",
            "swap", "swap 0", "swap 0 0", "swap 0 0 0", "swap 0 0 0 0 0", "swap 0 0 0  0", "swap 0 0 0 0 ",
            " swap 0 0 0 0", "swap 00 0 0 0", "swap 0 00 0 0", "swap 0 0 00 0", "swap 0 0 0 00", "swap 0 0 0 100",
            "swap 0 0 0 x", "Swap 0 0 0 0", "settle", "0", "0 0", "hands 1", "tie 0 1", "stuck", "enter 0\r",
        ]
        for line in wrong:
            self.assertEqual(refused(read_run, "enter 0\n" + line), bad_text(2), line)
            text = "enter 0\npass 0 0\n" + line + "\nnonsense\nswap 0 0 1 1"
            self.assertEqual(refused(read_run, text), bad_text(3), line)
            if line:
                self.assertEqual(refused(read_run, line), bad_text(1), line)

    def test_empty_lines(self):
        self.assertEqual(refused(read_run, "\n"), bad_text(1))
        self.assertEqual(refused(read_run, "\nenter 0"), bad_text(1))
        self.assertEqual(refused(read_run, "enter 0\n"), bad_text(2))
        self.assertEqual(refused(read_run, "enter 0\n\nenter 0"), bad_text(2))
        self.assertEqual(refused(read_run, "enter 0\npass 0 0\n"), bad_text(3))
        self.assertEqual(refused(read_run, "enter 0\n\n"), bad_text(2))

    def test_example(self):
        self.assertEqual(play(begin(), read_run("enter 0\npass 0 0\nenter 0\nenter 1")).places, ((1, 1), (1,)))
