import itertools
import unittest

from fullhands.ground.table import Table
from fullhands.ground.text import read_table, table_text
from tests.support import bad_table, bad_text, fields, refused

WHOLE = "\n".join([
    "hands 2 1 3 4 1",
    "tie 0 1",
    "tie 1 2",
    "tie 1 4",
    "tie 2 3",
    "kind 5 via 0 1 2 3",
    "kind 24 via 3 2",
    "kind 0 via 4 1 0",
    "share 7 of 0 2",
    "share 10 of 1",
    "quick 1 2",
    "quick 1 4",
])


def whole_table():
    kinds = [((0, 1, 2, 3), 5), ((3, 2), 24), ((4, 1, 0), 0)]
    return Table([2, 1, 3, 4, 1], [(2, 3), (4, 1), (1, 2), (1, 0)], kinds, quick=[(4, 1), (2, 1)],
                 shares=[((1,), 10), ((2, 0), 7)])


class Writing(unittest.TestCase):
    def test_whole(self):
        self.assertEqual(table_text(whole_table()), WHOLE)

    def test_smallest(self):
        self.assertEqual(table_text(Table([1], [], [])), "hands 1")
        self.assertEqual(table_text(Table([1, 2], [(1, 0)], [])), "hands 1 2\ntie 0 1")

    def test_example(self):
        self.assertEqual(table_text(read_table("hands 1 2\ntie 1 0\nkind 3 via 0 1")),
                         "hands 1 2\ntie 0 1\nkind 3 via 0 1")

    def test_writing_and_back(self):
        ties = tuple(itertools.combinations(range(6), 2))
        kinds = tuple([(way, 4 * at) for at, way in enumerate(itertools.islice(itertools.permutations(range(6)), 6))])
        great = Table([1, 2, 3, 4, 1, 2], ties, kinds, quick=ties[3:9], shares=[((5, 0), 24), ((1, 2, 3), 9), ((4,), 0)])
        for table in (whole_table(), great, Table([4], [], [])):
            self.assertEqual(fields(read_table(table_text(table))), fields(table))


class Reading(unittest.TestCase):
    def test_whole(self):
        self.assertEqual(fields(read_table(WHOLE)), fields(whole_table()))

    def test_lines_of_a_group_in_any_order(self):
        lines = WHOLE.split("\n")
        for group in (slice(1, 5), slice(8, 10), slice(10, 12)):
            for order in itertools.permutations(lines[group]):
                text = "\n".join(lines[:group.start] + list(order) + lines[group.stop:])
                self.assertEqual(table_text(read_table(text)), WHOLE)

    def test_kinds_keep_the_order_of_the_text(self):
        table = read_table("hands 1 1\ntie 0 1\nkind 2 via 1 0\nkind 1 via 0 1")
        self.assertEqual(table.kinds, (((1, 0), 2), ((0, 1), 1)))

    def test_pairs_in_either_direction(self):
        text = WHOLE.replace("tie 1 4", "tie 4 1").replace("quick 1 2", "quick 2 1")
        self.assertEqual(table_text(read_table(text)), WHOLE)

    def test_kinds_of_a_share_in_any_order(self):
        self.assertEqual(table_text(read_table(WHOLE.replace("of 0 2", "of 2 0"))), WHOLE)

    def test_groups_may_be_missing(self):
        self.assertEqual(fields(read_table("hands 3")), ((3,), (), (), (), ()))
        table = read_table("hands 1 1\ntie 0 1\nquick 1 0")
        self.assertEqual(fields(table), ((1, 1), ((0, 1),), (), ((0, 1),), ()))

    def test_numbers_with_two_digits(self):
        self.assertEqual(read_table("hands 1 1\ntie 0 1\nkind 10 via 0 1\nkind 24 via 1 0").kinds,
                         (((0, 1), 10), ((1, 0), 24)))


class WrongLines(unittest.TestCase):
    def test_first_line(self):
        for line in ("", " ", "hands", "hands ", "hands  1", " hands 1", "hands 1 ", "hands x", "hands 1 x", "hands 01",
                     "hands 00", "hands 100", "hands -1", "hands +1", "hands 1,2", "hands 1\t2", "Hands 1", "hand 1",
                     "tie 0 1", "kind 1 via 0 1", "share 1 of 0", "quick 0 1", "hands1", "hands 1.0", "hands 1_0"):
            self.assertEqual(refused(read_table, line), bad_text(1), line)
            self.assertEqual(refused(read_table, line + "\nnonsense"), bad_text(1), line)

    def test_later_lines(self):
        wrong = [
            "", " ", "hands 1 1", "hands 1 2 3", "nonsense", "tie", "tie 0", "tie 0 1 2", "tie  0 1", "tie 0  1",
            " tie 0 1", "tie 0 1 ", "tie 0 x", "tie 00 1", "tie 0 01", "tie 0 100", "tie 0 -1", "Tie 0 1", "tie 0,1",
            "kind", "kind 1", "kind 1 via", "kind 1 via ", "kind via 0 1", "kind 1 of 0 1", "kind 1 0 1",
            "kind 1 via 0  1", "kind 1 via 0 1 ", "kind 1  via 0 1", " kind 1 via 0 1", "kind 01 via 0 1",
            "kind 100 via 0 1", "kind 1 via 0 x", "kind x via 0 1", "kind 1 via via 0 1", "kind 1 Via 0 1",
            "share", "share 1", "share 1 of", "share 1 of ", "share of 0", "share 1 via 0", "share 1 of 0 ",
            "share 1 of  0", "share 01 of 0", "share 100 of 0", "share 1 of 00", "share 1 of x", "share x of 0",
            "quick", "quick 0", "quick 0 1 2", "quick 0  1", "quick 0 1 ", " quick 0 1", "quick 0 01", "quick 0 100",
            "quick 0 x", "quick x 0", "slow 0 1", "tie 0 1\r",
        ]
        for line in wrong:
            self.assertEqual(refused(read_table, "hands 1 1\n" + line), bad_text(2), line)
            text = "hands 1 1\ntie 0 1\n" + line + "\nnonsense"
            self.assertEqual(refused(read_table, text), bad_text(3), line)

    def test_each_line_of_a_long_text(self):
        lines = WHOLE.split("\n")
        for at in range(len(lines)):
            for wrong in ("", lines[at] + " ", lines[at] + "\n", "nonsense"):
                text = "\n".join(lines[:at] + [wrong] + lines[at + 1:])
                line = at + 2 if wrong.endswith("\n") else at + 1
                self.assertEqual(refused(read_table, text), bad_text(line))

    def test_groups_in_the_wrong_order(self):
        group = {"tie": "tie 0 1", "kind": "kind 3 via 0 1", "share": "share 1 of 0", "quick": "quick 0 1"}
        names = list(group)
        for first, second in itertools.product(names, repeat=2):
            text = "hands 1 2\ntie 0 1\n" + group[first] + "\n" + group[second]
            found = refused(read_table, text)
            if names.index(second) < names.index(first):
                self.assertEqual(found, bad_text(4), text)
            else:
                self.assertNotEqual((found or ("",))[0], "BadText", text)

    def test_example(self):
        self.assertEqual(refused(read_table, "hands 1 2\nkind 3 via 0 1\ntie 0 1"), bad_text(3))

    def test_a_line_behind_a_later_group_but_one(self):
        text = "hands 1 1\ntie 0 1\nkind 1 via 0 1\nquick 0 1\nquick 0 1\nshare 1 of 0"
        self.assertEqual(refused(read_table, text), bad_text(6))
        self.assertEqual(refused(read_table, "hands 1 1\nquick 0 1\ntie 0 1\nx"), bad_text(3))

    def test_empty_text_and_newlines_at_the_end(self):
        self.assertEqual(refused(read_table, ""), bad_text(1))
        self.assertEqual(refused(read_table, "\n"), bad_text(1))
        self.assertEqual(refused(read_table, "\nhands 1"), bad_text(1))
        self.assertEqual(refused(read_table, "hands 1\n"), bad_text(2))
        self.assertEqual(refused(read_table, "hands 1 1\ntie 0 1\n\n"), bad_text(3))
        self.assertEqual(refused(read_table, WHOLE + "\n"), bad_text(13))

    def test_wrong_lines_come_ahead_of_broken_rules(self):
        self.assertEqual(refused(read_table, "hands 9\nnonsense"), bad_text(2))
        self.assertEqual(refused(read_table, "hands 1 1\ntie 0 0\nkind 99 via 7\ntie 0 1"), bad_text(4))


class BrokenRules(unittest.TestCase):
    """All lines have a form, but the table that they tell of breaks a rule."""

    def test_places(self):
        pair = "hands 1 1\ntie 0 1\n"
        kind = pair + "kind 1 via 0 1\n"
        cases = [
            ("hands 1 1 1 1 1 1 1", "people", 7),
            ("hands 0", "hands", 0),
            ("hands 1 99\ntie 0 1", "hands", 1),
            ("hands 1 1\ntie 0 2", "ties", 0),
            ("hands 1 1\ntie 0 1\ntie 1 0", "ties", 1),
            ("hands 1 1\ntie 1 1", "ties", 0),
            ("hands 1 1", "web", 1),
            (pair + "kind 1 via 0", "kinds", 0),
            (pair + "kind 1 via 0 2", "kinds", 0),
            (pair + "kind 24 via 0 1\nkind 25 via 0 1", "kinds", 1),
            (pair + "kind 1 via 0 1 0", "kinds", 0),
            (pair + "\n".join(["kind 1 via 0 1"] * 7), "kinds", 6),
            (kind + "quick 0 99", "quick", 0),
            (kind + "quick 0 1\nquick 1 0", "quick", 1),
            (kind + "share 25 of 0", "shares", 0),
            (kind + "share 1 of 0 0", "shares", 0),
            (kind + "share 1 of 0\nshare 1 of 0", "shares", 1),
            (kind + "share 1 of 1", "shares", 0),
        ]
        for text, place, index in cases:
            self.assertEqual(refused(read_table, text), bad_table(place, index), text)

    def test_index_counts_in_the_order_of_the_text(self):
        text = "hands 1 1 1\ntie 1 2\ntie 0 1\ntie 2 1"
        self.assertEqual(refused(read_table, text), bad_table("ties", 2))

    def test_quick_ties_are_checked_ahead_of_shares(self):
        text = "hands 1 1\ntie 0 1\nkind 1 via 0 1\nshare 99 of 0\nquick 0 0"
        self.assertEqual(refused(read_table, text), bad_table("quick", 0))
