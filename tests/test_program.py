import copy
import itertools
import random
import unittest

from fullhands.hosts.judge import judge_program
from fullhands.hosts.program import program_text, read_program, reduced, sends
from tests.hosts import HUGE, flat, is_right, random_program, random_programs, wrong_word
from tests.search import random_tree
from tests.support import frozen, no_such, refused, thawed

SEND = ("send", ((1, 0),), None)


def bad_program(line, word):
    return ("BadProgram", ("line", line), ("word", word))


def too_great(what):
    return ("TooGreat", ("what", what))


class Text(unittest.TestCase):
    def check(self, text, program):
        self.assertEqual(read_program(text), program)
        self.assertEqual(read_program(text), frozen(read_program(text)))
        self.assertEqual(program_text(program), text)

    def test_sends(self):
        self.check("host send 1 of 0", ((SEND,),))
        self.check("host send 12 of 5", ((("send", ((12, 5),), None),),))
        self.check("host send 1 of 0 window 9", ((("send", ((1, 0),), 9),),))
        self.check("host send 3 of 2 and 40 of 1", ((("send", ((3, 2), (40, 1)), None),),))
        self.check("host send 3 of 2 and 40 of 1 window 7", ((("send", ((3, 2), (40, 1)), 7),),))

    def test_rows_of_statements(self):
        self.check("host send 1 of 0 ; send 2 of 1 window 2 ; send 1 of 0",
                   ((SEND, ("send", ((2, 1),), 2), SEND),))
        self.check("host send 1 of 0 ; again 5 ( send 1 of 0 ) ; send 1 of 0", ((SEND, ("again", 5, (SEND,)), SEND),))

    def test_hosts(self):
        self.check("host send 1 of 0\nhost again 2 ( send 1 of 0 )\nhost send 1 of 0 ; send 1 of 0",
                   ((SEND,), (("again", 2, (SEND,)),), (SEND, SEND)))

    def test_agains(self):
        self.check("host again 2 ( again 3 ( again 4 ( send 1 of 0 ) ) )",
                   ((("again", 2, (("again", 3, (("again", 4, (SEND,)),)),)),),))
        self.check("host again 2 ( send 1 of 0 ; again 3 ( again 4 ( send 1 of 0 ) ; send 1 of 0 ) ; send 1 of 0 )",
                   ((("again", 2, (SEND, ("again", 3, (("again", 4, (SEND,)), SEND)), SEND)),),))
        three = "again 1 ( again 1 ( again 1 ( send 1 of 0 ) ) )"
        self.check(f"host {three} ; {three}", ((("again", 1, (("again", 1, (("again", 1, (SEND,)),)),)),) * 2,))

    def test_great_numbers(self):
        self.check(f"host send {HUGE} of 0 and {HUGE} of 1 window {HUGE} ; again {HUGE} ( send 1 of 0 )",
                   ((("send", ((HUGE, 0), (HUGE, 1)), HUGE), ("again", HUGE, (SEND,))),))
        for number in (HUGE + 1, 10 ** 31, 9 * 10 ** 30, 10 ** 5000):
            digits = "1" + "0" * 5000 if number == 10 ** 5000 else str(number)
            for text, word in ((f"host send {digits} of 0", 2), (f"host send 1 of 0 and {digits} of 1", 6),
                               (f"host send 1 of 0 window {digits}", 6), (f"host again {digits} ( send 1 of 0 )", 2),
                               (f"host send 1 of {digits}", 4)):
                self.assertEqual(refused(read_program, text), bad_program(1, word))

    def test_programs(self):
        """The words of the text, and back."""
        for program in random_programs(58, 300):
            text = program_text(program)
            self.assertTrue(all(is_right(line) for line in text.split("\n")), text)
            self.assertEqual(read_program(text), program)
            self.assertEqual(program_text(thawed_program(program)), text)

    def test_examples(self):
        self.assertEqual(read_program("host send 2 of 0 ; again 9 ( send 1 of 1 and 3 of 0 window 2 )"),
                         ((("send", ((2, 0),), None), ("again", 9, (("send", ((1, 1), (3, 0)), 2),))),))
        text = "host send 2 of 0 ; again 9 (\nhost send 1 of 1"
        self.assertEqual(refused(read_program, text), bad_program(1, 9))


def thawed_program(program):
    """The program with lists for its hosts, bodies and flows."""
    def statement(one):
        if one[0] == "again":
            return ("again", one[1], [statement(inner) for inner in one[2]])
        return ("send", [list(flow) for flow in one[1]], one[2])

    return [[statement(one) for one in host] for host in program]


LINES = [
    "host send 3 of 0",
    "host send 3 of 0 window 2",
    "host send 3 of 0 and 2 of 1 window 2 ; send 1 of 5",
    "host again 2 ( send 3 of 1 )",
    "host send 1 of 2 ; again 2 ( send 3 of 1 and 1 of 0 ; again 3 ( send 1 of 0 ) ) ; send 1 of 0",
    "host again 2 ( again 3 ( again 4 ( send 1 of 0 window 1 ) ; send 2 of 1 ) )",
]
WORDS = ["", "host", "send", "again", "window", "and", "of", "(", ")", ";", "0", "1", "5", "6", "00", "01", "-1", "+1",
         "x", "Send", "1.0", str(HUGE), str(HUGE + 1), ";;", "()", "1;"]


class WrongWords(unittest.TestCase):
    def check(self, line):
        word = wrong_word(line)
        self.assertEqual(refused(read_program, line), None if word is None else bad_program(1, word), line)
        return word is None

    def test_a_word_exchanged(self):
        found = set()
        for line in LINES:
            words = line.split(" ")
            for at in range(len(words)):
                for word in WORDS:
                    found.add(self.check(" ".join(words[:at] + [word] + words[at + 1:])))
        self.assertEqual(found, {True, False})

    def test_a_word_too_many(self):
        for line in LINES:
            words = line.split(" ")
            for at in range(len(words) + 1):
                for word in WORDS:
                    self.check(" ".join(words[:at] + [word] + words[at:]))

    def test_a_word_left_out(self):
        for line in LINES:
            words = line.split(" ")
            for at in range(len(words)):
                self.check(" ".join(words[:at] + words[at + 1:]))

    def test_a_line_that_ends_too_early(self):
        for line in LINES:
            words = line.split(" ")
            for at in range(1, len(words)):
                self.check(" ".join(words[:at]))
        self.assertEqual(refused(read_program, "host"), bad_program(1, 1))
        self.assertEqual(refused(read_program, "host send 1 of"), bad_program(1, 4))
        self.assertEqual(refused(read_program, "host send 1 of 0 ;"), bad_program(1, 6))
        self.assertEqual(refused(read_program, "host again 1 ( send 1 of 0"), bad_program(1, 8))
        self.assertEqual(refused(read_program, "host again 1 ( again 1 ( send 1 of 0 )"), bad_program(1, 12))

    def test_empty_words(self):
        self.assertEqual(refused(read_program, ""), bad_program(1, 0))
        self.assertEqual(refused(read_program, " "), bad_program(1, 0))
        self.assertEqual(refused(read_program, " host send 1 of 0"), bad_program(1, 0))
        self.assertEqual(refused(read_program, "host send 1 of 0 "), bad_program(1, 5))
        self.assertEqual(refused(read_program, "host  send 1 of 0"), bad_program(1, 1))
        self.assertEqual(refused(read_program, "host send 1 of 0 ; "), bad_program(1, 6))

    def test_empty_lines(self):
        self.assertEqual(refused(read_program, "\n"), bad_program(1, 0))
        self.assertEqual(refused(read_program, "host send 1 of 0\n"), bad_program(2, 0))
        self.assertEqual(refused(read_program, "host send 1 of 0\n\nhost send 1 of 0"), bad_program(2, 0))
        self.assertEqual(refused(read_program, "\nhost send 1 of 0"), bad_program(1, 0))

    def test_a_second_kind_that_equals_the_first_one(self):
        self.assertEqual(refused(read_program, "host send 1 of 3 and 2 of 3"), bad_program(1, 8))
        self.assertEqual(refused(read_program, "host send 1 of 0 and 2 of 0 window 1"), bad_program(1, 8))
        self.assertIsNone(refused(read_program, "host send 1 of 0 and 2 of 1 ; send 1 of 0 and 1 of 1"))

    def test_the_first_line_and_word(self):
        wrong = "host send x of 0 and 1"
        self.assertEqual(refused(read_program, wrong + "\nhost send 1 x 0"), bad_program(1, 2))
        self.assertEqual(refused(read_program, "host send 1 of 0\n" + wrong + "\nx"), bad_program(2, 2))
        self.assertEqual(refused(read_program, "host send 1 of 0\nhost send 1 of 0\nhost"), bad_program(3, 1))

    def test_more_agains_than_closed(self):
        line = "host " + "again 1 ( " * 3 + "send 1 of 0"
        for many in range(3):
            self.assertEqual(refused(read_program, line + " )" * many), bad_program(1, 14 + many))
        self.assertIsNone(refused(read_program, line + " )" * 3))
        self.assertEqual(refused(read_program, line + " )" * 4), bad_program(1, 17))


class TooGreatPrograms(unittest.TestCase):
    DEEP = "again 1 ( again 1 ( again 1 ( again 1 ( send 1 of 0 ) ) ) )"

    def test_each(self):
        line = "host send 1 of 0"
        self.assertIsNone(refused(read_program, "\n".join([line] * 3)))
        self.assertEqual(refused(read_program, "\n".join([line] * 4)), too_great("hosts"))
        self.assertEqual(refused(read_program, "host " + self.DEEP), too_great("depth"))
        self.assertEqual(refused(read_program, line + "\n" + "host send 1 of 0 ; " + self.DEEP), too_great("depth"))
        self.assertIsNone(refused(read_program, "host " + " ; ".join(["send 1 of 0"] * 6)))
        self.assertEqual(refused(read_program, "host " + " ; ".join(["send 1 of 0"] * 7)), too_great("sends"))
        three = "\n".join(["host send 1 of 0 ; again 9 ( send 1 of 1 )"] * 3)
        self.assertIsNone(refused(read_program, three))
        self.assertEqual(refused(read_program, three + " ; send 1 of 0"), too_great("sends"))

    def test_order(self):
        seven = "host " + " ; ".join(["send 1 of 0"] * 7)
        self.assertEqual(refused(read_program, seven + " ; " + self.DEEP), too_great("depth"))
        self.assertEqual(refused(read_program, "\n".join([seven] * 4)), too_great("hosts"))
        self.assertEqual(refused(read_program, "\n".join(["host " + self.DEEP] * 4)), too_great("hosts"))
        deep = "\n".join(["host " + self.DEEP + " ; " + self.DEEP] * 3)
        self.assertEqual(refused(read_program, deep), too_great("depth"))

    def test_behind_every_bad_program(self):
        for text in ("\n".join(["host send 1 of 0"] * 5), "host " + self.DEEP,
                     "host " + " ; ".join(["send 1 of 0"] * 9)):
            lines = text.split("\n")
            self.assertEqual(refused(read_program, text + "\nhost send 1 of 6"), bad_program(len(lines) + 1, 4))
            words = len(lines[-1].split(" "))
            self.assertEqual(refused(read_program, text + " ; send"), bad_program(len(lines), words + 2))

    def test_agains_side_by_side_are_not_deep(self):
        line = "host " + " ; ".join(["again 1 ( send 1 of 0 )"] * 6)
        self.assertIsNone(refused(read_program, line))
        self.assertEqual(refused(read_program, line + " ; " + self.DEEP), too_great("depth"))

    def test_very_deep_agains(self):
        line = "host " + "again 1 ( " * 2000 + "send 1 of 0" + " )" * 2000
        self.assertEqual(refused(read_program, line), too_great("depth"))
        self.assertEqual(refused(read_program, line[:-2]), bad_program(1, 1 + 6000 + 4 + 1999))


class Sends(unittest.TestCase):
    def test_order_of_writing(self):
        for program in random_programs(57, 100):
            for host, statements in enumerate(program):
                for given in (program, thawed_program(program)):
                    before = copy.deepcopy(given)
                    found = sends(given, host)
                    self.assertEqual((found, found), (flat(statements), [frozen(send) for send in found]))
                    self.assertIsInstance(found, list)
                    self.assertEqual(given, before)

    def test_what_is_returned_is_not_shared(self):
        program = ((SEND, SEND),)
        sends(program, 0).clear()
        self.assertEqual(sends(program, 0), [SEND, SEND])

    def test_strange_hosts(self):
        for host in (-1, -2, 2, 3, HUGE, -HUGE):
            self.assertEqual(refused(sends, ((SEND,), (SEND,)), host), no_such("host"))


class Reduced(unittest.TestCase):
    def covers(self, one, other):
        """Point 63 for each set of the six kinds."""
        def reach(send, kinds):
            together = sum(many for many, kind in send[1] if kind in kinds)
            return together if send[2] is None else min(together, send[2])

        return all(reach(one, kinds) >= reach(other, kinds) for many in range(7)
                   for kinds in itertools.combinations(range(6), many))

    def left(self, row):
        return tuple(send for at, send in enumerate(row) if not any(
            self.covers(other, send) and not (self.covers(send, other) and at < place)
            for place, other in enumerate(row) if place != at))

    def check(self, program):
        expected = tuple(self.left(flat(host)) for host in program)
        for given in (program, thawed_program(program)):
            before = copy.deepcopy(given)
            found = reduced(given)
            self.assertEqual((found, frozen(found)), (expected, found))
            self.assertEqual(given, before)
        return expected

    def test_programs(self):
        fewer = 0
        for program in random_programs(63, 300):
            found = self.check(program)
            fewer += sum(map(len, found)) < sum(len(flat(host)) for host in program)
            self.assertEqual(reduced(found), found)
        self.assertGreater(fewer, 30)

    def test_all_pairs_of_sends(self):
        """With windows and with one or two flows; also in agains."""
        rows = [((many, kind),) for many in (1, 2, 3) for kind in (0, 1)]
        rows += [((one, 0), (other, 1)) for one in (1, 2, 3) for other in (1, 2)] + [((2, 1), (1, 0)), ((2, 1), (2, 2))]
        every = [("send", flows, window) for flows in rows for window in (None, 1, 2, 3, 9)]
        found = set()
        for one, other in itertools.product(every, repeat=2):
            found.add(len(self.check(((one, other),))[0]))
            found.add(len(self.check(((("again", 2, (one,)), ("again", HUGE, (("again", 1, (other,)),))),))[0]))
        self.assertEqual(found, {1, 2})

    def test_one_way_and_both_ways(self):
        less, more = ("send", ((1, 0),), None), ("send", ((2, 0), (1, 1)), 2)
        self.assertEqual(reduced(((less, more),)), ((more,),))
        self.assertEqual(reduced(((more, less),)), ((more,),))
        # A window that is not less than all dishes together changes nothing, nor does the order of the flows.
        alike = [("send", ((2, 0), (1, 1)), None), ("send", ((1, 1), (2, 0)), None), ("send", ((2, 0), (1, 1)), 3)]
        for order in itertools.permutations(alike):
            self.assertEqual(reduced((order,)), ((order[0],),))
            self.assertEqual(reduced(((("again", 2, order[:2]), order[2]),)), ((order[0],),))
        self.assertEqual(reduced((alike + [more],)), ((alike[0],),))

    def test_each_send_that_covers_it_is_looked_at_by_itself(self):
        """The first one is equal to the second one, but the third one covers both one way."""
        one, other = ("send", ((1, 0),), None), ("send", ((1, 0),), 1)
        great = ("send", ((2, 0),), None)
        for order in itertools.permutations((one, other, great)):
            self.assertEqual(reduced((order,)), ((great,),))

    def test_other_hosts_play_no_part(self):
        less, more = ("send", ((1, 0),), None), ("send", ((2, 0),), None)
        self.assertEqual(reduced(((less,), (more,), (less, more))), ((less,), (more,), (more,)))

    def test_gets_stuck_on_the_same_trees(self):
        rule = random.Random(64)
        found = set()
        for _ in range(250):
            table = random_tree(rule, people=(2, 4), kinds=(2, 4), quick=0, shares=0)
            kinds = range(len(table.kinds))
            program = random_program(rule, kinds, hosts=(1, 2), sends=4)
            more = random_program(rule, kinds, hosts=(1, 1), sends=2)
            for added in ((), more):
                stuck = judge_program(table, program + added) is not None
                found.add((stuck, bool(added)))
                self.assertEqual(judge_program(table, reduced(program) + added) is not None, stuck)
        self.assertEqual(len(found), 4)
