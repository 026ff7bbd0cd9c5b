import copy
import itertools
import unittest

from fullhands.ground.table import Table
from tests.support import bad_table, fields, frozen, mixed, no_such, refused, thawed

# Four people in a row and one more beside, with everything that a table can have.
HANDS = (2, 1, 3, 4, 1)
TIES = ((0, 1), (1, 2), (2, 3), (1, 4))
KINDS = (((0, 1, 2, 3), 5), ((3, 2), 2), ((4, 1, 0), 24), ((2, 1, 4), 0))
QUICK = ((1, 2), (1, 4))
SHARES = (((0, 2), 7), ((3,), 24))


def made(hands=HANDS, ties=TIES, kinds=KINDS, quick=QUICK, shares=SHARES):
    return Table(hands, ties, kinds, quick=quick, shares=shares)


def fault(**parts):
    return refused(made, **parts)


class Building(unittest.TestCase):
    def test_fields(self):
        table = made()
        self.assertEqual(fields(table), (HANDS, ((0, 1), (1, 2), (1, 4), (2, 3)), KINDS, QUICK, SHARES))
        self.assertEqual(table.people, 5)

    def test_quick_ties_and_shares_may_be_left_out(self):
        table = Table([1, 1], [(0, 1)], [])
        self.assertEqual(fields(table), ((1, 1), ((0, 1),), (), (), ()))

    def test_quick_ties_and_shares_are_passed_by_keyword_only(self):
        with self.assertRaises(TypeError):
            Table([1, 1], [(0, 1)], [], [])

    def test_lists_tuples_and_mixtures(self):
        parts = (HANDS, TIES, KINDS, QUICK, SHARES)
        plain = fields(made(*parts))
        for form in (thawed, frozen, mixed, lambda rows: mixed(rows, 1)):
            self.assertEqual(fields(made(*[form(part) for part in parts])), plain)

    def test_fields_are_tuples_all_the_way_down(self):
        table = made(*[thawed(part) for part in (HANDS, TIES, KINDS, QUICK, SHARES)])
        for part in fields(table):
            self.assertEqual(part, frozen(part))
            self.assertIsInstance(part, tuple)

    def test_arguments_stay_as_they_are(self):
        parts = [thawed(part) for part in (HANDS, TIES[::-1], KINDS, QUICK[::-1], SHARES[::-1])]
        before = copy.deepcopy(parts)
        made(*parts)
        self.assertEqual(parts, before)

    def test_table_stays_when_the_arguments_are_changed(self):
        hands, ties, kinds, quick, shares = [thawed(part) for part in (HANDS, TIES, KINDS, QUICK, SHARES)]
        table = made(hands, ties, kinds, quick, shares)
        before = fields(table)
        hands[0] = 4
        ties[0][1] = 3
        kinds[0][0].append(4)
        kinds[1][1] = 9
        del kinds[2]
        quick.clear()
        shares[0][0][0] = 1
        shares[1][1] = 0
        self.assertEqual(fields(table), before)
        self.assertEqual((table.wants(0, 3), table.is_quick(1, 2), table.share_of(0)), (None, True, 0))
        self.assertEqual((table.neighbours(0), table.steps_to(2, 0)), ((1,), 2))


class NormalForm(unittest.TestCase):
    def test_ties_in_any_order_and_direction(self):
        for order in itertools.permutations(TIES):
            for turned in itertools.product((False, True), repeat=len(TIES)):
                ties = [tie[::-1] if turn else tie for tie, turn in zip(order, turned)]
                self.assertEqual(made(ties=ties).ties, ((0, 1), (1, 2), (1, 4), (2, 3)))

    def test_quick_ties_in_any_order_and_direction(self):
        quick = ((0, 1), (1, 2), (2, 3))
        for order in itertools.permutations(quick):
            for turned in itertools.product((False, True), repeat=len(quick)):
                given = [tie[::-1] if turn else tie for tie, turn in zip(order, turned)]
                self.assertEqual(made(quick=given).quick, quick)

    def test_shares_in_any_order(self):
        shares = (((0, 3), 4), ((1,), 24), ((2,), 0))
        for order in itertools.permutations(shares):
            for turn in (False, True):
                given = [(kinds[::-1] if turn else kinds, bound) for kinds, bound in order]
                self.assertEqual(made(shares=given).shares, shares)

    def test_kinds_keep_their_order(self):
        for order in itertools.permutations(KINDS):
            self.assertEqual(made(kinds=order, shares=()).kinds, order)


class Bounds(unittest.TestCase):
    def test_smallest_table(self):
        table = Table([1], [], [])
        self.assertEqual(fields(table), ((1,), (), (), (), ()))
        self.assertEqual(table.people, 1)

    def test_one_person_alone(self):
        table = Table([4], [], [])
        self.assertEqual(table.neighbours(0), ())
        self.assertFalse(table.is_tied(0, 0))
        self.assertFalse(table.is_quick(0, 0))
        self.assertEqual((table.is_tree(), table.is_round(), table.has_one_hand()), (True, False, False))
        self.assertTrue(Table([1], [], []).has_one_hand())
        self.assertEqual(fields(table.renumbered([0])), fields(table))

    def test_greatest_table(self):
        ties = tuple(itertools.combinations(range(6), 2))
        kinds = tuple([(way, 24) for way in itertools.islice(itertools.permutations(range(6)), 6)])
        shares = tuple([((kind, kind + 3), 24) for kind in range(3)])
        table = Table([4] * 6, ties, kinds, quick=ties, shares=shares)
        self.assertEqual(fields(table), ((4,) * 6, ties, kinds, ties, shares))
        self.assertEqual(table.people, 6)

    def test_number_of_people(self):
        for people in range(1, 7):
            ties = [(person, person + 1) for person in range(people - 1)]
            self.assertEqual(Table([1] * people, ties, []).people, people)
        self.assertEqual(refused(Table, [], [], []), bad_table("people", 0))
        self.assertEqual(refused(Table, [1] * 7, [], []), bad_table("people", 7))
        self.assertEqual(refused(Table, [1] * 30, [], []), bad_table("people", 30))

    def test_hands(self):
        for many in range(1, 5):
            self.assertEqual(made(hands=(2, 1, many, 1, 1)).hands[2], many)
        for many in (0, -1, 5, 10 ** 40, -10 ** 40):
            self.assertEqual(fault(hands=(2, 1, many, 1, 1)), bad_table("hands", 2))
        self.assertEqual(fault(hands=(0, 1, 1, 1, 1)), bad_table("hands", 0))
        self.assertEqual(fault(hands=(1, 1, 1, 1, 5)), bad_table("hands", 4))
        self.assertEqual(fault(hands=(1, 5, 1, 0, 5)), bad_table("hands", 1))

    def test_mosts_and_bounds(self):
        for number in (0, 1, 23, 24):
            self.assertEqual(made(kinds=KINDS[:3] + (((0, 1), number),)).kinds[3][1], number)
            self.assertEqual(made(shares=(((1,), number),)).shares, (((1,), number),))
        for number in (-1, 25, 10 ** 40, -10 ** 40):
            self.assertEqual(fault(kinds=KINDS[:3] + (((0, 1), number),)), bad_table("kinds", 3))
            self.assertEqual(fault(shares=(((0,), 1), ((1,), number))), bad_table("shares", 1))


class BrokenRules(unittest.TestCase):
    def test_ties(self):
        for tie in ((), (2,), (2, 3, 4), (2, 3, 2), (0, 5), (5, 0), (-1, 0), (0, -1), (2, 10 ** 40), (2, 2), (0, 0),
                    (0, 1), (1, 0), (2, 1)):
            self.assertEqual(fault(ties=((0, 1), (1, 2), tie, (2, 3), (1, 4))), bad_table("ties", 2), tie)
            self.assertEqual(fault(ties=((0, 1), (1, 2), list(tie), (7, 8))), bad_table("ties", 2), tie)
        self.assertEqual(fault(ties=((1, 1),) + TIES), bad_table("ties", 0))
        self.assertEqual(fault(ties=TIES + ((3, 2),)), bad_table("ties", 4))
        self.assertEqual(refused(Table, [1], [(0, 0)], []), bad_table("ties", 0))
        self.assertEqual(refused(Table, [1], [(0, 1)], []), bad_table("ties", 0))

    def test_web(self):
        self.assertEqual(refused(Table, [1, 1], [], []), bad_table("web", 1))
        self.assertEqual(fault(ties=(), kinds=(), quick=(), shares=()), bad_table("web", 1))
        self.assertEqual(fault(ties=((0, 1), (2, 3), (3, 4))), bad_table("web", 2))
        self.assertEqual(fault(ties=((0, 4), (2, 3), (3, 4))), bad_table("web", 1))
        self.assertEqual(fault(ties=((0, 1), (1, 2), (2, 0), (1, 4))), bad_table("web", 3))
        self.assertEqual(fault(ties=((1, 2), (2, 3), (3, 4), (4, 1))), bad_table("web", 1))

    def test_web_is_found_however_the_ties_are_ordered(self):
        for order in itertools.permutations(((4, 3), (3, 2), (2, 1), (1, 0))):
            self.assertIsNone(refused(Table, [1] * 5, order, []))

    def test_kinds(self):
        broken = [(way, 3) for way in ((), (1,), (0, 5), (5, 0), (0, -1), (-1, 0), (0, 10 ** 40), (0, 0), (0, 1, 0),
                                       (0, 1, 2, 1), (0, 2), (2, 0), (3, 4), (0, 1, 2, 4), (0, 1, 3))]
        broken += [((0, 1), -1), ((0, 1), 25)]
        for kind in broken:
            for index in range(5):
                kinds = KINDS[:index] + (kind,) + KINDS[index:]
                self.assertEqual(fault(kinds=kinds), bad_table("kinds", index), kind)
                self.assertEqual(fault(kinds=kinds + (((9, 9), 99),)), bad_table("kinds", index), kind)

    def test_ways_in_both_directions_of_a_tie(self):
        table = made(kinds=(((3, 2, 1, 0), 1), ((4, 1, 2, 3), 1)), shares=())
        self.assertEqual([way for way, _ in table.kinds], [(3, 2, 1, 0), (4, 1, 2, 3)])

    def test_seventh_kind(self):
        good = ((0, 1), 1)
        self.assertEqual(len(made(kinds=(good,) * 6, shares=()).kinds), 6)
        self.assertEqual(fault(kinds=(good,) * 7), bad_table("kinds", 6))
        self.assertEqual(fault(kinds=(good,) * 9), bad_table("kinds", 6))
        self.assertEqual(fault(kinds=(good,) * 6 + (((0,), 1),)), bad_table("kinds", 6))
        self.assertEqual(fault(kinds=(good,) * 5 + (((0,), 1),) + (good,)), bad_table("kinds", 5))

    def test_quick(self):
        for tie in ((), (2,), (2, 3, 4), (2, 3, 2), (0, 2), (3, 4), (0, 0), (0, 5), (-1, 0), (1, -1), (0, 10 ** 40),
                    (1, 2), (2, 1), (4, 1)):
            self.assertEqual(fault(quick=((1, 2), (4, 1), tie, (0, 1))), bad_table("quick", 2), tie)
            self.assertEqual(fault(quick=((1, 2), (4, 1), list(tie), ())), bad_table("quick", 2), tie)
        self.assertEqual(fault(quick=((),)), bad_table("quick", 0))
        self.assertEqual(fault(quick=((0, 2), (0, 3))), bad_table("quick", 0))
        self.assertEqual(fault(quick=((1, 0), (0, 1))), bad_table("quick", 1))

    def test_shares(self):
        for share in (((), 1), ((4,), 1), ((-1,), 1), ((1, 10 ** 40), 1), ((1, 1), 1), ((1, 3, 1), 1), ((0,), 1),
                      ((1, 2), 1), ((1,), -1), ((1,), 25)):
            self.assertEqual(fault(shares=(((2, 0), 3), share, ((3,), 1))), bad_table("shares", 1), share)
            self.assertEqual(fault(shares=(((2, 0), 3), share, ((9,), 99))), bad_table("shares", 1), share)
        self.assertEqual(fault(shares=(((), 1),)), bad_table("shares", 0))
        self.assertEqual(fault(shares=(((0,), 1), ((1,), 1), ((0,), 1))), bad_table("shares", 2))
        self.assertEqual(refused(Table, [1], [], [], shares=[((0,), 1)]), bad_table("shares", 0))

    def test_fourth_share(self):
        shares = tuple([((kind,), 1) for kind in range(4)])
        self.assertEqual(len(made(shares=shares[:3]).shares), 3)
        self.assertEqual(fault(shares=shares), bad_table("shares", 3))
        self.assertEqual(fault(shares=shares[:3] + (((), 1),)), bad_table("shares", 3))
        self.assertEqual(fault(shares=shares[:2] + (((), 1),) + shares[3:]), bad_table("shares", 2))

    def test_of_several_broken_rules_the_first_one_counts(self):
        broken = [
            ("hands", (1,) * 7, "people", 7),
            ("hands", (1, 1, 1, 1, 9), "hands", 4),
            ("ties", TIES + ((0, 0),), "ties", 4),
            ("ties", TIES[:3], "web", 4),
            ("kinds", KINDS + (((0, 3), 1),), "kinds", 4),
            ("quick", ((1, 2), (0, 3)), "quick", 1),
            ("shares", (((0,), 25),), "shares", 0),
        ]
        for first, second in itertools.combinations(broken, 2):
            if first[0] != second[0]:
                parts = {first[0]: first[1], second[0]: second[1]}
                self.assertEqual(fault(**parts), bad_table(first[2], first[3]), (first, second))
        self.assertEqual(fault(hands=(9,) * 7), bad_table("people", 7))
        self.assertEqual(fault(ties=((0, 1), (0, 0))), bad_table("ties", 1))
        every = {part: rows for part, rows, _, _ in reversed(broken)}
        self.assertEqual(fault(**every), bad_table("people", 7))

    def test_a_tie_that_is_missing_for_a_way_is_looked_for_behind_the_web(self):
        self.assertEqual(fault(ties=((0, 1), (1, 2), (2, 3))), bad_table("web", 4))
        self.assertEqual(fault(ties=((0, 1), (1, 2), (2, 3), (3, 4))), bad_table("kinds", 2))


class Questions(unittest.TestCase):
    def setUp(self):
        self.table = made()

    def test_neighbours(self):
        near = [self.table.neighbours(person) for person in range(5)]
        self.assertEqual(near, [(1,), (0, 2, 4), (1, 3), (2,), (1,)])

    def test_neighbours_are_ascending_however_the_ties_are_given(self):
        ties = ((2, 5), (4, 2), (2, 3), (1, 2), (0, 2))
        self.assertEqual(Table([1] * 6, ties, []).neighbours(2), (0, 1, 3, 4, 5))

    def test_is_tied_and_is_quick(self):
        for person, other in itertools.product(range(5), repeat=2):
            pair = tuple(sorted((person, other)))
            self.assertIs(self.table.is_tied(person, other), pair in TIES)
            self.assertIs(self.table.is_quick(person, other), pair in QUICK)

    def test_wants(self):
        wanted = [[self.table.wants(kind, person) for person in range(5)] for kind in range(4)]
        self.assertEqual(wanted, [
            [1, 2, 3, None, None],
            [None, None, None, 2, None],
            [None, 0, None, None, 1],
            [None, 4, 1, None, None],
        ])

    def test_steps_to(self):
        steps = [[self.table.steps_to(kind, person) for person in range(5)] for kind in range(4)]
        self.assertEqual(steps, [
            [0, 1, 2, 3, None],
            [None, None, 1, 0, None],
            [2, 1, None, None, 0],
            [None, 1, 0, None, 2],
        ])

    def test_share_of(self):
        self.assertEqual([self.table.share_of(kind) for kind in range(4)], [0, None, 0, 1])
        self.assertEqual([made(shares=(((3, 1), 2),)).share_of(kind) for kind in range(4)], [None, 0, None, 0])

    def test_trees_and_round_tables(self):
        kinds = []
        shapes = {
            "one": ([1], []),
            "two": ([1, 1], [(0, 1)]),
            "row": ([1] * 4, [(0, 1), (1, 2), (2, 3)]),
            "star": ([1] * 4, [(0, 1), (0, 2), (0, 3)]),
            "triangle": ([1] * 3, [(0, 1), (1, 2), (0, 2)]),
            "square": ([1] * 4, [(0, 2), (2, 1), (1, 3), (3, 0)]),
            "six": ([1] * 6, [(0, 1), (1, 2), (2, 3), (3, 4), (4, 5), (5, 0)]),
            "tail": ([1] * 4, [(0, 1), (1, 2), (0, 2), (2, 3)]),
            "chord": ([1] * 4, [(0, 1), (1, 2), (2, 3), (3, 0), (0, 2)]),
            "all": ([1] * 4, list(itertools.combinations(range(4), 2))),
        }
        tables = {name: Table(hands, ties, kinds) for name, (hands, ties) in shapes.items()}
        self.assertEqual([name for name in tables if tables[name].is_tree()], ["one", "two", "row", "star"])
        self.assertEqual([name for name in tables if tables[name].is_round()], ["triangle", "square", "six"])
        for table in tables.values():
            self.assertIsInstance(table.is_tree(), bool)
            self.assertIsInstance(table.is_round(), bool)

    def test_one_hand_each(self):
        self.assertIs(Table([1, 1, 1], [(0, 1), (1, 2)], []).has_one_hand(), True)
        for hands in ([2, 1, 1], [1, 1, 4], [2, 2, 2]):
            self.assertIs(Table(hands, [(0, 1), (1, 2)], []).has_one_hand(), False)


class Changes(unittest.TestCase):
    def setUp(self):
        self.table = made()
        self.before = fields(self.table)

    def tearDown(self):
        self.assertEqual(fields(self.table), self.before)

    def check(self, table, **parts):
        self.assertIsInstance(table, Table)
        self.assertIsNot(table, self.table)
        self.assertEqual(fields(table), fields(made(**parts)))

    def test_with_hands(self):
        for many in range(1, 5):
            self.check(self.table.with_hands(2, many), hands=(2, 1, many, 4, 1))
        self.check(self.table.with_hands(0, 4), hands=(4, 1, 3, 4, 1))
        self.check(self.table.with_hands(4, 2), hands=(2, 1, 3, 4, 2))
        for many in (0, -1, 5, 10 ** 40):
            self.assertEqual(refused(self.table.with_hands, 3, many), bad_table("hands", 3))

    def test_with_most(self):
        for most in (0, 1, 24):
            self.check(self.table.with_most(1, most), kinds=KINDS[:1] + (((3, 2), most),) + KINDS[2:])
        self.check(self.table.with_most(3, 9), kinds=KINDS[:3] + (((2, 1, 4), 9),))
        for most in (-1, 25, 10 ** 40):
            self.assertEqual(refused(self.table.with_most, 2, most), bad_table("kinds", 2))

    def test_with_quick(self):
        self.check(self.table.with_quick(0, 1), quick=QUICK + ((0, 1),))
        self.check(self.table.with_quick(3, 2), quick=QUICK + ((2, 3),))
        self.check(self.table.with_quick(1, 2))
        self.check(self.table.with_quick(2, 1))
        for person, other in ((0, 2), (3, 4), (4, 3), (1, 1)):
            self.assertEqual(refused(self.table.with_quick, person, other), no_such("tie"))

    def test_without_quick(self):
        self.check(self.table.without_quick(1, 2), quick=((1, 4),))
        self.check(self.table.without_quick(4, 1), quick=((1, 2),))
        self.check(self.table.without_quick(1, 0))
        for person, other in ((0, 2), (3, 4), (4, 3), (1, 1)):
            self.assertEqual(refused(self.table.without_quick, person, other), no_such("tie"))

    def test_with_kind(self):
        for way in ((2, 1, 0), [2, 1, 0]):
            self.check(self.table.with_kind(way, 24), kinds=KINDS + (((2, 1, 0), 24),))
        for way, most in (((), 1), ((0,), 1), ((0, 2), 1), ((0, 5), 1), ((-1, 0), 1), ((0, 1, 0), 1), ((0, 1), 25),
                          ((0, 1), -1)):
            self.assertEqual(refused(self.table.with_kind, way, most), bad_table("kinds", 4))
        six = self.table.with_kind((0, 1), 0).with_kind((1, 0), 1)
        self.assertEqual((len(six.kinds), six.share_of(5)), (6, None))
        self.assertEqual(refused(six.with_kind, (0, 1), 1), bad_table("kinds", 6))

    def test_with_kind_keeps_nothing_of_its_argument(self):
        way = [2, 1, 0]
        table = self.table.with_kind(way, 1)
        way.append(9)
        self.assertEqual(table.kinds[4], ((2, 1, 0), 1))

    def test_without_kind(self):
        self.check(self.table.without_kind(0), kinds=KINDS[1:], shares=(((1,), 7), ((2,), 24)))
        self.check(self.table.without_kind(1), kinds=KINDS[:1] + KINDS[2:], shares=(((0, 1), 7), ((2,), 24)))
        self.check(self.table.without_kind(2), kinds=KINDS[:2] + KINDS[3:], shares=(((0,), 7), ((2,), 24)))
        self.check(self.table.without_kind(3), kinds=KINDS[:3], shares=(((0, 2), 7),))

    def test_without_kind_orders_the_shares_anew(self):
        table = made(shares=(((0, 3), 7), ((1, 2), 9))).without_kind(0)
        self.assertEqual(table.shares, (((0, 1), 9), ((2,), 7)))

    def test_without_the_only_kind(self):
        table = Table([1, 1], [(0, 1)], [((0, 1), 1)], shares=[((0,), 1)]).without_kind(0)
        self.assertEqual((table.kinds, table.shares), ((), ()))

    def test_with_person(self):
        for many in range(1, 5):
            table = self.table.with_person(3, many)
            self.check(table, hands=HANDS + (many,), ties=TIES + ((3, 5),))
            self.assertEqual((table.people, table.neighbours(5)), (6, (3,)))
        for many in (0, -1, 5, 10 ** 40):
            self.assertEqual(refused(self.table.with_person, 0, many), bad_table("hands", 5))
        six = self.table.with_person(0, 1)
        self.assertEqual(refused(six.with_person, 0, 1), bad_table("people", 7))
        self.assertEqual(refused(six.with_person, 0, 9), bad_table("people", 7))
        two = Table([3], [], []).with_person(0, 2)
        self.assertEqual(fields(two), ((3, 2), ((0, 1),), (), (), ()))

    def test_renumbered(self):
        order = (3, 0, 4, 1, 2)
        for given in (order, list(order)):
            table = self.table.renumbered(given)
            self.assertEqual(fields(table), (
                (1, 4, 1, 2, 3),
                ((0, 2), (0, 3), (0, 4), (1, 4)),
                (((3, 0, 4, 1), 5), ((1, 4), 2), ((2, 0, 3), 24), ((4, 0, 2), 0)),
                ((0, 2), (0, 4)),
                SHARES,
            ))

    def test_renumbered_by_all_orders_and_back(self):
        for order in itertools.permutations(range(5)):
            table = self.table.renumbered(order)
            for person in range(5):
                self.assertEqual(table.hands[order[person]], HANDS[person])
                near = sorted([order[other] for other in self.table.neighbours(person)])
                self.assertEqual(table.neighbours(order[person]), tuple(near))
            back = [order.index(person) for person in range(5)]
            self.assertEqual(fields(table.renumbered(back)), self.before)

    def test_renumbered_by_no_order(self):
        for order in ((), (0, 1, 2, 3), (0, 1, 2, 3, 4, 5), (0, 1, 2, 3, 3), (1, 2, 3, 4, 5), (0, 1, 2, 3, -1),
                      (0, 1, 2, 3, 10 ** 40), (0, 1, 2, 3, 4, 4), (-1, 0, 1, 2, 3)):
            self.assertEqual(refused(self.table.renumbered, order), no_such("order"))
            self.assertEqual(refused(self.table.renumbered, list(order)), no_such("order"))

    def test_order_stays_as_it_is(self):
        order = [3, 0, 4, 1, 2]
        self.table.renumbered(order)
        self.assertEqual(order, [3, 0, 4, 1, 2])


class StrangeNumbers(unittest.TestCase):
    def setUp(self):
        self.table = made()

    def test_people(self):
        table = self.table
        person_only = (table.neighbours, lambda person: table.is_tied(person, 0), lambda person: table.is_tied(0, person),
                       lambda person: table.is_quick(person, 0), lambda person: table.is_quick(0, person),
                       lambda person: table.wants(0, person), lambda person: table.steps_to(0, person),
                       lambda person: table.with_hands(person, 1), lambda person: table.with_quick(person, 0),
                       lambda person: table.with_quick(0, person), lambda person: table.without_quick(person, 0),
                       lambda person: table.without_quick(0, person), lambda person: table.with_person(person, 1))
        for call in person_only:
            for person in (5, 6, -1, -5, -6, 10 ** 40, -10 ** 40):
                self.assertEqual(refused(call, person), no_such("person"))

    def test_kinds(self):
        table = self.table
        calls = (lambda kind: table.wants(kind, 0), lambda kind: table.steps_to(kind, 0), table.share_of,
                 lambda kind: table.with_most(kind, 1), table.without_kind)
        for call in calls:
            for kind in (4, 5, -1, -4, -5, 10 ** 40, -10 ** 40):
                self.assertEqual(refused(call, kind), no_such("kind"))

    def test_of_several_the_first_one_counts(self):
        for call in (self.table.wants, self.table.steps_to):
            self.assertEqual(refused(call, 4, 5), no_such("kind"))
            self.assertEqual(refused(call, -1, -1), no_such("kind"))

    def test_they_come_ahead_of_the_other_errors(self):
        table = self.table
        self.assertEqual(refused(table.with_hands, 5, 9), no_such("person"))
        self.assertEqual(refused(table.with_hands, -1, 0), no_such("person"))
        self.assertEqual(refused(table.with_most, 4, 25), no_such("kind"))
        self.assertEqual(refused(table.with_most, -1, -1), no_such("kind"))
        self.assertEqual(refused(table.with_person, -1, 0), no_such("person"))
        self.assertEqual(refused(table.with_person(0, 1).with_person, 6, 1), no_such("person"))
        self.assertEqual(refused(table.with_quick, 5, 5), no_such("person"))
        self.assertEqual(refused(table.without_quick, 3, 7), no_such("person"))

    def test_without_kinds_each_kind_is_strange(self):
        table = Table([1, 1], [(0, 1)], [])
        for call in (table.share_of, table.without_kind):
            self.assertEqual(refused(call, 0), no_such("kind"))

    def test_numbers_in_ways_are_no_strange_numbers(self):
        self.assertEqual(refused(self.table.with_kind, (0, 9), 1), bad_table("kinds", 4))
