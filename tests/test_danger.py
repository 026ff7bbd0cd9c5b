import copy
import itertools
import random
import unittest

from fullhands.bounds.danger import Danger
from tests.support import frozen, mixed, refused, thawed
from tests.test_program import too_great

FAR = 10 ** 40


def bad_vector(index):
    return ("BadVector", ("index", index))


def at_most(one, other):
    return all(b is None or (a is not None and a <= b) for a, b in zip(one, other))


def grid(size, most):
    return list(itertools.product(range(most + 1), repeat=size))


def random_rows(rule, size, most, many=6):
    return [tuple(rule.randint(0, most) for _ in range(size)) for _ in range(rule.randint(0, many))]


def samples(seed=34, each=25):
    """Sizes and rows with small entries, of each size, without rows and with rows of zeros, too."""
    rule = random.Random(seed)
    for size in range(5):
        yield size, []
        yield size, [(0,) * size]
        for _ in range(each):
            yield size, random_rows(rule, size, 3 if size < 4 else 2)


def least_of(rows):
    """The least rows, in tuple order."""
    return sorted({row for row in rows if not any(other != row and at_most(other, row) for other in rows)})


def contains(rows, row):
    return any(at_most(least, row) for least in rows)


class Rows(unittest.TestCase):
    def test_least_rows(self):
        lengths = set()
        for size, rows in samples():
            danger = Danger(size, rows)
            self.assertEqual(danger.size, size)
            found = list(danger)
            self.assertEqual((found, frozen(found)), (least_of(rows), tuple(found)))
            self.assertEqual(found, sorted(found))
            self.assertEqual(len(danger), len(found))
            lengths.add(len(found))
        self.assertLessEqual({0, 1, 2, 3, 4}, lengths)

    def test_rows_in_any_order(self):
        rule = random.Random(1)
        for size, rows in samples():
            shuffled = rows + rows[::2]
            rule.shuffle(shuffled)
            self.assertEqual(list(Danger(size, shuffled)), list(Danger(size, rows)))

    def test_in(self):
        for size, rows in samples():
            danger = Danger(size, rows)
            for row in grid(size, 4 if size < 4 else 3):
                self.assertIs(row in danger, contains(rows, row))
                self.assertIs(list(row) in danger, contains(rows, row))
                self.assertIs(row not in danger, not contains(rows, row))

    def test_strange_rows_are_not_in_it(self):
        for size in range(5):
            danger = Danger(size, [(0,) * size])
            self.assertIn((0,) * size, danger)
            for row in [(0,) * (size + 1), (0,) * (size - 1), (9,) * (size + 2)] if size else [(0,), (0, 0)]:
                self.assertIs(row in danger, len(row) == size)
                self.assertIs(list(row) in danger, len(row) == size)
            for at in range(size):
                for entry in (-1, -FAR):
                    row = (9,) * at + (entry,) + (9,) * (size - at - 1)
                    self.assertIs(row in danger, False)
                    self.assertIs(list(row) in danger, False)

    def test_great_entries(self):
        danger = Danger(3, [(FAR, 0, 5), (1, FAR, FAR + 1), (FAR + 1, 0, 5), (FAR, 1, 5)])
        self.assertEqual(list(danger), [(1, FAR, FAR + 1), (FAR, 0, 5)])
        self.assertIn((FAR, 0, 5), danger)
        self.assertNotIn((FAR - 1, FAR, 5), danger)
        self.assertIn((FAR * 2, FAR * 3, FAR), danger)
        self.assertNotIn((FAR - 1, FAR - 1, FAR * 9), danger)

    def test_size_none(self):
        self.assertEqual((list(Danger(0, [])), len(Danger(0, [])), () in Danger(0, [])), ([], 0, False))
        self.assertEqual((list(Danger(0, [()])), len(Danger(0, [[], ()])), () in Danger(0, [()])), ([()], 1, True))

    def test_forms(self):
        rows = [(2, 1), (0, 3), (2, 4)]
        for form in (frozen, thawed, mixed, lambda some: mixed(some, 1)):
            given = form(rows)
            before = copy.deepcopy(given)
            danger = Danger(2, given)
            self.assertEqual(list(danger), [(0, 3), (2, 1)])
            self.assertEqual(given, before)

    def test_does_not_change(self):
        rows = [[2, 1], [0, 3]]
        danger = Danger(2, rows)
        rows[0][0] = 0
        rows.append([0, 0])
        list(danger).clear()
        danger.tops().clear()
        self.assertEqual((list(danger), danger.tops()), ([(0, 3), (2, 1)], [(1, 2), (None, 0)]))

    def test_iterated_several_times_at_once(self):
        danger = Danger(2, [(2, 1), (0, 3)])
        self.assertEqual([(one, other) for one in danger for other in danger],
                         [((0, 3), (0, 3)), ((0, 3), (2, 1)), ((2, 1), (0, 3)), ((2, 1), (2, 1))])

    def test_errors(self):
        self.assertEqual(refused(Danger, 5, []), too_great("size"))
        self.assertEqual(refused(Danger, 5, [(1,), (-1,) * 5]), too_great("size"))
        self.assertEqual(refused(Danger, FAR, [()]), too_great("size"))
        self.assertIsNone(refused(Danger, 4, [(FAR,) * 4]))
        for form in (frozen, thawed):
            for wrong in ((1,), (1, 2, 3), (), (-1, 0), (0, -1), (-FAR, FAR)):
                for at in range(3):
                    rows = [(5, 5)] * 3
                    rows[at] = wrong
                    self.assertEqual(refused(Danger, 2, form(rows)), bad_vector(at))
                    self.assertEqual(refused(Danger, 2, form(rows + [(1,)])), bad_vector(at))
        self.assertEqual(refused(Danger, 0, [(), (0,)]), bad_vector(1))


class Pairs(unittest.TestCase):
    def pairs(self):
        """Pairs of equal size, some of them equal, some of them one within the other."""
        rule = random.Random(35)
        for size, rows in samples():
            others = random_rows(rule, size, 3 if size < 4 else 2)
            for other in (others, rows, rows + others, rows[1:]):
                yield size, rows, other

    def test_union(self):
        for size, rows, others in self.pairs():
            one, other = Danger(size, rows), Danger(size, others)
            found = one | other
            self.assertIsInstance(found, Danger)
            self.assertEqual((found.size, list(found)), (size, least_of(rows + others)))
            self.assertEqual((list(one), list(other)), (least_of(rows), least_of(others)))

    def test_intersection(self):
        for size, rows, others in self.pairs():
            found = Danger(size, rows) & Danger(size, others)
            self.assertIsInstance(found, Danger)
            every = [row for row in grid(size, 3) if contains(rows, row) and contains(others, row)]
            self.assertEqual((found.size, list(found)), (size, least_of(every)))

    def test_equal(self):
        found = set()
        for size, rows, others in self.pairs():
            expected = least_of(rows) == least_of(others)
            found.add(expected)
            self.assertIs(Danger(size, rows) == Danger(size, others), expected)
            self.assertIs(Danger(size, rows) != Danger(size, others), not expected)
        self.assertEqual(found, {True, False})

    def test_equal_to_other_things(self):
        danger = Danger(2, [(1, 2)])
        others = (Danger(3, [(1, 2, 0)]), Danger(1, [(1,)]), Danger(2, []))
        for other in (None, 0, 2, "x", (1, 2), [(1, 2)], ((1, 2),), {}) + others:
            self.assertIs(danger == other, False)
            self.assertIs(danger != other, True)
            self.assertIs(other == danger, False)
        # Without rows, sets of different sizes are still different.
        self.assertIs(Danger(1, []) == Danger(2, []), False)
        self.assertIs(Danger(0, []) == Danger(0, []), True)
        self.assertIs(Danger(0, [()]) == Danger(0, []), False)

    def test_great_entries(self):
        one, other = Danger(2, [(FAR, 1), (0, FAR)]), Danger(2, [(1, FAR + 5), (FAR + 5, 0)])
        self.assertEqual(list(one | other), [(0, FAR), (FAR, 1), (FAR + 5, 0)])
        self.assertEqual(list(one & other), [(1, FAR + 5), (FAR + 5, 1)])
        self.assertEqual(one.parting(other), (0, FAR))

    def test_beside(self):
        rule = random.Random(36)
        for size, rows in samples():
            for more in range(5 - size):
                others = random_rows(rule, more, 3, 3)
                found = Danger(size, rows).beside(Danger(more, others))
                self.assertIsInstance(found, Danger)
                expected = [row + other for row in least_of(rows) for other in least_of(others)]
                self.assertEqual((found.size, list(found)), (size + more, expected))
        self.assertEqual(refused(Danger(3, []).beside, Danger(2, [])), too_great("size"))
        self.assertEqual(refused(Danger(4, [(1, 1, 1, 1)]).beside, Danger(1, [(1,)])), too_great("size"))
        self.assertIsNone(refused(Danger(4, []).beside, Danger(0, [()])))
        self.assertIsNone(refused(Danger(2, []).beside, Danger(2, [])))

    def test_parting(self):
        found = set()
        for size, rows, others in self.pairs():
            one, other = Danger(size, rows), Danger(size, others)
            apart = [row for row in grid(size, 3) if contains(rows, row) != contains(others, row)]
            expected = min(apart, key=lambda row: (sum(row), row), default=None)
            self.assertEqual(one.parting(other), expected)
            self.assertEqual(other.parting(one), expected)
            found.add(expected is None)
        self.assertEqual(found, {True, False})

    def test_parting_by_the_sum_and_then_in_tuple_order(self):
        one = Danger(2, [(0, 4), (3, 1)])
        self.assertEqual(one.parting(Danger(2, [(3, 1)])), (0, 4))
        self.assertEqual(one.parting(Danger(2, [(0, 4)])), (3, 1))
        self.assertEqual(one.parting(Danger(2, [])), (0, 4))
        self.assertEqual(one.parting(Danger(2, [(2, 2)])), (0, 4))
        self.assertEqual(one.parting(Danger(2, [(2, 1)])), (2, 1))
        self.assertEqual(Danger(2, [(1, 9), (9, 0)]).parting(Danger(2, [])), (9, 0))

    def test_different_sizes(self):
        for size, other in itertools.permutations(range(5), 2):
            one, two = Danger(size, [(1,) * size]), Danger(other, [])
            self.assertEqual(refused(lambda: one | two), bad_vector(0))
            self.assertEqual(refused(lambda: one & two), bad_vector(0))
            self.assertEqual(refused(one.parting, two), bad_vector(0))


class Tops(unittest.TestCase):
    def tops_of(self, size, rows, most):
        """All greatest tops, found by going through all tops whose entries are at most as great as this."""
        free = [top for top in itertools.product(list(range(most + 1)) + [None], repeat=size)
                if not any(at_most(row, top) for row in rows)]
        kept = [top for top in free if not any(top != other and at_most(top, other) for other in free)]
        return sorted(kept, key=lambda top: [(entry is None, entry or 0) for entry in top])

    def test_against_all_rows(self):
        lengths = set()
        for size, rows in samples(each=40):
            found = Danger(size, rows).tops()
            self.assertIsInstance(found, list)
            self.assertEqual((found, frozen(found)), (self.tops_of(size, rows, 3 if size < 4 else 2), tuple(found)))
            lengths.add(len(found))
            for row in grid(size, 3):
                self.assertEqual(contains(rows, row), not any(at_most(row, top) for top in found))
        self.assertLessEqual({0, 1, 2, 3, 4, 5, 6}, lengths)

    def test_many_rows(self):
        rule = random.Random(37)
        for size in (2, 3, 4):
            rows = [tuple(rule.randint(0, 4) for _ in range(size)) for _ in range(25)]
            self.assertEqual(Danger(size, rows).tops(), self.tops_of(size, rows, 4))

    def test_from_the_tops_the_same_set(self):
        for size, rows in samples(35):
            danger = Danger(size, rows)
            self.assertTrue(Danger.from_tops(size, danger.tops()) == danger)
            self.assertTrue(Danger.from_tops(size, danger.tops()[::-1]) == danger)

    def test_none_stands_behind_all_integers(self):
        danger = Danger(2, [(1, FAR), (FAR, 1), (0, FAR + 1)])
        self.assertEqual(danger.tops(), [(0, FAR), (FAR - 1, FAR - 1), (None, 0)])
        self.assertEqual(Danger(3, [(1, 0, 2), (0, 3, 0)]).tops(), [(0, 2, None), (None, 2, 1)])
        self.assertEqual(Danger(1, [(FAR,)]).tops(), [(FAR - 1,)])
        self.assertEqual(Danger(4, [(1, 1, 1, 1)]).tops(),
                         [(0, None, None, None), (None, 0, None, None), (None, None, 0, None), (None, None, None, 0)])

    def test_no_rows_and_all_rows(self):
        for size in range(5):
            self.assertEqual(Danger(size, []).tops(), [(None,) * size])
            self.assertEqual(Danger(size, [(0,) * size]).tops(), [])
            self.assertEqual(list(Danger.from_tops(size, [])), [(0,) * size])
            self.assertEqual(list(Danger.from_tops(size, [(None,) * size])), [])
        self.assertEqual(list(Danger.from_tops(0, [(), ()])), [])

    def test_great_entries(self):
        danger = Danger(4, [(FAR, 1, 0, 2), (0, FAR, 7, 0), (5, 5, 5, 5)])
        for top in danger.tops():
            self.assertFalse(any(at_most(row, top) for row in danger))
            for at, entry in enumerate(top):
                if entry is not None:
                    self.assertIn(entry + 1, [row[at] for row in danger])
                    raised = top[:at] + (entry + 1,) + top[at + 1:]
                    self.assertTrue(any(at_most(row, raised) for row in danger))
        self.assertTrue(Danger.from_tops(4, danger.tops()) == danger)

    def test_tops_that_need_not_be_greatest(self):
        rule = random.Random(38)
        for size in range(5):
            for _ in range(40):
                tops = [tuple(rule.choice((0, 1, 2, None)) for _ in range(size)) for _ in range(rule.randint(0, 5))]
                for form in (frozen, thawed, mixed):
                    given = form(tops)
                    before = copy.deepcopy(given)
                    danger = Danger.from_tops(size, given)
                    self.assertEqual(given, before)
                    self.assertIsInstance(danger, Danger)
                    self.assertEqual(danger.size, size)
                    outside = [row for row in grid(size, 4) if any(at_most(row, top) for top in tops)]
                    self.assertEqual([row for row in grid(size, 4) if row not in danger], outside)
                    self.assertEqual(list(danger), least_of(list(danger)))

    def test_errors(self):
        self.assertEqual(refused(Danger.from_tops, 5, []), too_great("size"))
        self.assertEqual(refused(Danger.from_tops, 5, [(1,)]), too_great("size"))
        for wrong in ((1,), (None,), (None,) * 3, (), (-1, None), (None, -1), (0, -FAR)):
            for at in range(3):
                tops = [(None, 5)] * 3
                tops[at] = wrong
                for form in (frozen, thawed):
                    self.assertEqual(refused(Danger.from_tops, 2, form(tops)), bad_vector(at))
                    self.assertEqual(refused(Danger.from_tops, 2, form(tops + [(1,)])), bad_vector(at))
        self.assertEqual(refused(Danger.from_tops, 0, [(), (None,)]), bad_vector(1))

    def test_example(self):
        danger = Danger(2, [(2, 1), (0, 3), (2, 4)])
        self.assertEqual((list(danger), (1, 5) in danger, danger.tops()),
                         ([(0, 3), (2, 1)], True, [(1, 2), (None, 0)]))
