import copy
import itertools
import random
import unittest

from fullhands.hanging.loads import Loads
from tests.support import no_such, refused

FAR = 10 ** 40
BAD_LOADS = ("BadLoads",)
ENDLESS = float("inf")


def above(entry):
    return ENDLESS if entry is None else entry


def entries(numbers=(0, 1, 2, 5, FAR, None)):
    """All entries of loads with these numbers."""
    return [row for row in itertools.product(numbers, repeat=4)
            if all(above(one) <= above(other) for one, other in zip(row, row[1:]))]


def some(seed, many):
    """Random entries, with many different sums."""
    rule = random.Random(seed)
    for _ in range(many):
        ends = rule.randint(0, 4)
        row = sorted(rule.randint(0, 30) for _ in range(ends))
        yield tuple(row) + (None,) * (4 - ends)


def sum_of(row, other):
    """The entries of the sum by the words of point 44."""
    one, two = [0] + [above(entry) for entry in row], [0] + [above(entry) for entry in other]
    found = [min(one[r] + two[h - r] for r in range(h + 1)) for h in range(1, 5)]
    return tuple(None if entry == ENDLESS else entry for entry in found)


class Build(unittest.TestCase):
    def test_from_lists_and_tuples(self):
        for row in entries():
            for form in (list, tuple):
                loads = Loads(form(row))
                self.assertEqual(list(loads), list(row))
                self.assertEqual([loads[at] for at in range(5)], [0, *row])

    def test_arguments_stay_as_they_are(self):
        row = [1, 2, None, None]
        loads = Loads(row)
        self.assertEqual(row, [1, 2, None, None])
        row[:] = [9, 9, 9, 9]
        row.append(3)
        self.assertEqual((list(loads), loads[0], loads[4]), ([1, 2, None, None], 0, None))
        list(loads).clear()
        self.assertEqual(list(loads), [1, 2, None, None])

    def test_bad_loads(self):
        bad = [(), (1,), (1, 2, 3), (1, 2, 3, 4, 5), (None,) * 3, (None,) * 5, (0, 1, 2, 3, 4), (-1, 0, 0, 0),
               (-1, None, None, None), (0, -1, 0, 0), (0, 0, 0, -1), (-FAR, 0, 0, 0), (2, 1, 3, 4), (1, 2, 3, 2),
               (1, 3, 2, 4), (FAR + 1, FAR, FAR + 2, None), (None, 1, 2, 3), (1, None, 2, None), (1, 2, None, 3),
               (1, 2, None, 0), (None, None, None, FAR), (None, 0, None, None)]
        for row in bad:
            self.assertEqual(refused(Loads, row), BAD_LOADS, row)
            self.assertEqual(refused(Loads, list(row)), BAD_LOADS, row)

    def test_all_rows_of_small_numbers(self):
        good = set(entries((0, 1, 2, None)))
        for row in itertools.product((-1, 0, 1, 2, None), repeat=4):
            self.assertEqual(refused(Loads, row), None if row in good else BAD_LOADS)

    def test_none(self):
        loads = Loads.none()
        self.assertIsInstance(loads, Loads)
        self.assertEqual((list(loads), loads[0]), ([None] * 4, 0))
        for row in entries():
            self.assertEqual(list(Loads(row) + Loads.none()), list(row))
            self.assertEqual(list(Loads.none() + Loads(row)), list(row))


class Sums(unittest.TestCase):
    def test_against_the_words(self):
        rows = list(some(44, 60)) + entries((0, 2, FAR, None))
        for one, other in itertools.product(rows, repeat=2):
            first, second = Loads(one), Loads(other)
            found = first + second
            self.assertIsInstance(found, Loads)
            self.assertEqual(tuple(found), sum_of(one, other))
            self.assertEqual((tuple(first), tuple(second)), (one, other))

    def test_laws(self):
        rows = [Loads(row) for row in some(45, 25)]
        for one, two, three in itertools.product(rows[:12], rows[8:20], rows[-4:]):
            self.assertEqual(one + two, two + one)
            self.assertEqual((one + two) + three, one + (two + three))

    def test_times(self):
        for row in list(some(46, 40)) + entries((0, 1, FAR, None)):
            loads = Loads(row)
            total = Loads.none()
            self.assertEqual(loads.times(0), Loads.none())
            for many in range(1, 9):
                total = total + loads
                self.assertEqual(list(loads.times(many)), list(total))
            for many in (40, 10 ** 30 - 1, 10 ** 30):
                self.assertEqual(loads.times(many), total)
            self.assertEqual(tuple(loads), row)

    def test_times_is_built_up(self):
        loads = Loads([3, 7, 50, 50])
        self.assertEqual([list(loads.times(many)) for many in range(1, 5)],
                         [[3, 7, 50, 50], [3, 6, 10, 14], [3, 6, 9, 13], [3, 6, 9, 12]])

    def test_example(self):
        self.assertEqual(list(Loads([2, 3, None, None]) + Loads([4, 4, 4, 9])), [2, 3, 4, 6])


class Compare(unittest.TestCase):
    def test_equal(self):
        rows = entries((0, 1, FAR, None))
        for one, other in itertools.product(rows, repeat=2):
            self.assertIs(Loads(one) == Loads(list(other)), one == other)
            self.assertIs(Loads(one) != Loads(other), one != other)
            expected = next((at + 1 for at in range(4) if one[at] != other[at]), None)
            self.assertEqual(Loads(one).first_difference(Loads(other)), expected)

    def test_with_other_things(self):
        loads = Loads([1, 2, 3, None])
        for thing in ([1, 2, 3, None], (1, 2, 3, None), (0, 1, 2, 3, None), None, 1, "loads", {}, Loads, object()):
            self.assertIs(loads == thing, False)
            self.assertIs(thing == loads, False)
            self.assertIs(loads != thing, True)
        self.assertIs(loads == loads, True)
        self.assertIs(loads == copy.copy(loads), True)


class Entries(unittest.TestCase):
    def test_no_such_entry(self):
        loads = Loads([1, 2, 3, None])
        for at in (-1, 5, -5, -4, 6, FAR, -FAR):
            self.assertEqual(refused(lambda: loads[at]), no_such("entry"))
        self.assertEqual([loads[at] for at in range(5)], [0, 1, 2, 3, None])

    def test_iterating(self):
        loads = Loads([1, 1, FAR, None])
        self.assertEqual((list(loads), list(loads)), ([1, 1, FAR, None], [1, 1, FAR, None]))
        self.assertEqual([pair for pair in zip(loads, loads)], [(1, 1), (1, 1), (FAR, FAR), (None, None)])
        self.assertIn(FAR, loads)
        self.assertNotIn(0, loads)
