import itertools
import random
import unittest

from fullhands.dealing.judge import judge
from fullhands.ground.table import Table
from fullhands.least.dishes import least_dishes
from fullhands.rings.longrow import row_first_stuck, row_least, row_table
from tests.support import fields, refused
from tests.test_program import too_great

HUGE = 10 ** 30
PATTERNS = [row for many in (1, 2, 3) for row in itertools.product(range(1, 5), repeat=many)]


def least_by_people(pattern, most_people, forward, backward, both):
    """For 0, 1, 2 .. people the least dishes by the words of point 43: going through all i and j."""
    hands = [pattern[person % len(pattern)] for person in range(most_people)]
    found, least = [None, None], None
    for last in range(1, most_people):
        for first in range(last):
            together = sum(hands[first:last + 1])
            if hands[first] <= forward and hands[last] <= backward and together <= forward + backward:
                if (both is None or together <= both) and (least is None or together < least):
                    least = together
        found.append(least)
    return found


def bounds():
    """Patterns with bounds: all of those with small bounds for short patterns, and some of all others."""
    rule = random.Random(43)
    for pattern in PATTERNS[:20]:
        for forward, backward in itertools.product(range(4), repeat=2):
            yield pattern, forward, backward, rule.choice((None, None, 0, 1, 2, 3, 4, 5, 6))
    for turn in range(900):
        pattern = tuple(rule.choice((1, 2, 3, 4)) for _ in range(rule.randint(1, 6)))
        both = rule.choice((None, rule.randint(0, 24)))
        yield pattern, rule.randint(0, 24 if turn % 2 else 6), rule.randint(0, 24 if turn % 3 else 6), both


class Least(unittest.TestCase):
    def test_against_all_stretches(self):
        answers = set()
        for pattern, forward, backward, both in bounds():
            expected = least_by_people(pattern, 26, forward, backward, both)
            for many in range(2, 27):
                self.assertEqual(row_least(pattern, many, forward, backward, both), expected[many])
            self.assertEqual(row_least(list(pattern), HUGE, forward, backward, both=both),
                             least_by_people(pattern, 60, forward, backward, both)[60])
            answers.add((expected[26] is None, both is None))
            if both is None:
                self.assertEqual(row_least(pattern, 26, forward, backward), expected[26])
        self.assertEqual(len(answers), 4)

    def test_all_bounds(self):
        for pattern, both in (((1,), None), ((2, 1), None), ((4, 3, 1), 9), ((3, 4), 24)):
            for forward, backward in itertools.product(range(25), repeat=2):
                expected = least_by_people(pattern, 9, forward, backward, both)
                self.assertEqual(row_least(pattern, 9, forward, backward, both), expected[9])
                self.assertEqual(row_least(pattern, 4, forward, backward, both), expected[4])
        for pattern, both in itertools.product(((1,), (2, 1), (4, 3, 1)), range(25)):
            expected = least_by_people(pattern, 9, 24, 24, both)
            self.assertEqual([row_least(pattern, many, 24, 24, both) for many in range(2, 10)], expected[2:])

    def test_first_stuck(self):
        firsts = set()
        for pattern, forward, backward, both in bounds():
            expected = least_by_people(pattern, 60, forward, backward, both)
            first = next((many for many, least in enumerate(expected) if least is not None), None)
            self.assertEqual(row_first_stuck(pattern, forward, backward, both), first)
            self.assertEqual(row_first_stuck(list(pattern), forward, backward, both=both), first)
            if both is None:
                self.assertEqual(row_first_stuck(pattern, forward, backward), first)
            firsts.add(first)
        self.assertLessEqual({None, 2, 3, 4, 5, 6}, firsts)

    def test_far_numbers_of_people(self):
        """Only the persons 3 and 4 of each turn of the pattern can be the first and the last one."""
        pattern = (4, 4, 4, 1, 1, 4)
        for many, least in ((2, None), (3, None), (4, None), (5, 2), (6, 2), (7, 2), (24, 2), (25, 2),
                            (HUGE - 1, 2), (HUGE, 2)):
            self.assertEqual(row_least(pattern, many, 1, 1), least)
        self.assertEqual(row_first_stuck(pattern, 1, 1), 5)
        self.assertEqual([row_least((1, 2, 3), HUGE + more, 3, 1, 7) for more in range(-7, 1)], [4] * 8)

    def test_the_longest_stretch(self):
        """Of 24 each way, a stretch can have 48 people with one hand each, but the least one has 2."""
        self.assertEqual(row_least((1,), HUGE, 24, 24), 2)
        self.assertEqual(row_least((1,), HUGE, 24, 24, 2), 2)
        self.assertEqual(row_least((1,), HUGE, 24, 24, 1), None)
        # The one who has few enough hands to be the last one is five persons behind the one who can be the first.
        self.assertEqual(row_least((2, 4, 4, 4, 4, 1), HUGE, 24, 1), 5)
        self.assertEqual(row_least((1, 4, 4, 4, 4, 4), HUGE, 1, 24), 5)
        self.assertEqual(row_least((1, 4, 4, 4, 4, 4), HUGE, 24, 1), 5)
        self.assertEqual(row_least((1, 4, 4, 4, 4, 4), HUGE, 1, 1), None)
        self.assertEqual(row_least((1, 4, 4, 4, 4, 4), HUGE, 2, 3), None)
        self.assertEqual(row_least((3, 4, 4, 4, 4, 4), HUGE, 3, 24), 7)
        self.assertEqual(row_least((3, 4, 4, 4, 4, 4), HUGE, 3, 3), None)

    def test_one_turn_is_between(self):
        """First and last are the same person of the pattern, so the stretch goes over the whole pattern."""
        self.assertEqual(row_least((1, 2, 2), HUGE, 1, 5, 6), 3)
        self.assertEqual(row_least((1, 4, 2), HUGE, 1, 1), None)
        self.assertEqual(row_least((4, 1, 4), HUGE, 3, 3, 24), None)
        self.assertEqual(row_least((3, 3, 3, 3, 3, 1), HUGE, 1, 24), 4)
        self.assertEqual([row_first_stuck((2, 1), 1, both, None) for both in range(4)], [None, None, 3, 3])

    def test_safe_with_every_number_of_people(self):
        for pattern, forward, backward, both in (((1,), 0, 24, None), ((1,), 24, 0, None), ((1,), 24, 24, 1),
                                                 ((3, 2), 1, 24, None), ((2, 2), 1, 2, None), ((4,), 4, 3, None),
                                                 ((4,), 4, 4, 7), ((1, 2, 1, 2, 1, 2), 1, 1, None), ((1,), 0, 0, 0)):
            self.assertIsNone(row_first_stuck(pattern, forward, backward, both))
            for many in (2, 3, 6, 7, 13, 50, HUGE - 1, HUGE):
                self.assertIsNone(row_least(pattern, many, forward, backward, both))

    def test_a_pattern_stays_as_it_is(self):
        pattern = [1, 2, 3]
        row_least(pattern, 9, 2, 2)
        row_first_stuck(pattern, 2, 2)
        row_table(pattern, 5, 2, 2)
        self.assertEqual(pattern, [1, 2, 3])


class RowTable(unittest.TestCase):
    def test_against_the_least_dishes(self):
        answers = set()
        rule = random.Random(44)
        for _ in range(120):
            pattern = [rule.choice((1, 1, 2, 3, 4)) for _ in range(rule.randint(1, 6))]
            forward, backward = rule.randint(0, 8), rule.randint(0, 8)
            both = rule.choice((None, rule.randint(0, 10)))
            for many in range(2, 7):
                table = row_table(pattern, many, forward, backward, both)
                least = least_dishes(table)
                self.assertEqual(row_least(pattern, many, forward, backward, both), least, fields(table))
                first = row_first_stuck(pattern, forward, backward, both)
                self.assertIs(judge(table).STUCK, first is not None and first <= many)
                answers.add((many, least is None, both is None))
        self.assertEqual(len(answers), 20)

    def test_fields(self):
        table = row_table((1, 2, 3, 4), 6, 5, 24)
        self.assertIsInstance(table, Table)
        self.assertEqual(fields(table), ((1, 2, 3, 4, 1, 2), ((0, 1), (1, 2), (2, 3), (3, 4), (4, 5)),
                                         (((0, 1, 2, 3, 4, 5), 5), ((5, 4, 3, 2, 1, 0), 24)), (), ()))
        table = row_table([3], 2, 0, 1, both=0)
        self.assertEqual(fields(table), ((3, 3), ((0, 1),), (((0, 1), 0), ((1, 0), 1)), (), (((0, 1), 0),)))
        self.assertEqual(row_table((1, 2, 3, 4, 1, 2), 3, 1, 1, 24).shares, (((0, 1), 24),))
        self.assertEqual(row_table((1, 2, 3, 4, 1, 2), 3, 1, 1, 24).hands, (1, 2, 3))

    def test_too_many_people(self):
        for many in (7, 8, HUGE):
            for both in (None, 0, 24):
                self.assertEqual(refused(row_table, (1,), many, 1, 1, both), too_great("people"))
        self.assertIsNone(refused(row_table, (1,), 6, 1, 1))
