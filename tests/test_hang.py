import itertools
import random
import unittest

from fullhands.ground.table import Table
from fullhands.ground.text import table_text
from fullhands.hanging.hang import branches, hang
from fullhands.least.dishes import least_dishes
from fullhands.least.effort import least_effort
from tests.search import random_tree
from tests.support import fields, no_such, refused
from tests.test_judge import NO_TREE, RING
from tests.test_program import too_great

FAR = 10 ** 40
ROW = [(0, 1), (1, 2)]
PAIR = [((0, 1), 1), ((1, 0), 1)]


def not_local(kind):
    return ("NotLocal", ("kind", kind))


def pairs_of_trees(seed, many, shares=0.4, quick=0.3):
    """Two trees that fit together, with a person of each."""
    rule = random.Random(seed)
    while many:
        main = random_tree(rule, people=(1, 4), kinds=(0, 4), shares=shares, quick=quick)
        branch = random_tree(rule, people=(1, 4), kinds=(0, 4), shares=shares, quick=quick)
        if main.people + branch.people <= 7 and len(main.kinds + branch.kinds) <= 6 \
                and len(main.shares + branch.shares) <= 3:
            many -= 1
            yield main, rule.randrange(main.people), branch, rule.randrange(branch.people)


def named(table, names):
    """All data of the table, with names for its people and without any order among ties."""
    ties = {frozenset((names[one], names[other])) for one, other in table.ties}
    quick = {frozenset((names[one], names[other])) for one, other in table.quick}
    kinds = [(tuple(names[person] for person in way), most) for way, most in table.kinds]
    return dict(zip(names, table.hands)), ties, quick, kinds


def is_like(one, other):
    """True if some renumbering of people, kinds and shares makes the two trees the same."""
    if sorted(one.hands) != sorted(other.hands):
        return False
    for order in itertools.permutations(range(one.people)):
        new = one.renumbered(order)
        if (new.hands, new.ties, new.quick) == (other.hands, other.ties, other.quick):
            if sorted(new.kinds) == sorted(other.kinds) and by_ways(new) == by_ways(other):
                return True
    return False


def by_ways(table):
    """The shares by the kinds themselves in the place of their numbers."""
    return sorted([(sorted(table.kinds[kind] for kind in members), bound) for members, bound in table.shares])


class Hang(unittest.TestCase):
    def test_against_the_words(self):
        forms = set()
        for main, person, branch, port in pairs_of_trees(46, 500):
            before = fields(main), fields(branch)
            whole = hang(main, person, branch, port)
            self.assertEqual((fields(main), fields(branch)), before)
            self.assertIsInstance(whole, Table)
            names = list(range(main.people)) + [("b", other) for other in range(branch.people) if other != port]
            within = [person if other == port else ("b", other) for other in range(branch.people)]
            hands, ties, quick, kinds = named(main, list(range(main.people)))
            more_hands, more_ties, more_quick, more_kinds = named(branch, within)
            expected = ({**more_hands, **hands}, ties | more_ties, quick | more_quick, kinds + more_kinds)
            self.assertEqual(named(whole, names), expected)
            many = len(main.kinds)
            shares = list(main.shares) + [(tuple(kind + many for kind in members), bound)
                                          for members, bound in branch.shares]
            self.assertEqual(list(whole.shares), shares)
            forms.add((bool(main.shares), bool(branch.shares), bool(branch.quick), 0 < port < branch.people - 1))
        self.assertEqual(len(forms), 16)

    def test_numbers(self):
        """The other people of the branch come in ascending order, on both sides of the port."""
        main = Table([1, 2], [(0, 1)], PAIR, shares=[((0, 1), 2)], quick=[(0, 1)])
        branch = Table([3, 4, 2, 1], [(0, 2), (2, 1), (2, 3)], [((3, 2, 0), 5), ((1, 2), 6)],
                       quick=[(1, 2)], shares=[((1,), 3)])
        whole = hang(main, 1, branch, 2)
        self.assertEqual(fields(whole), (
            (1, 2, 3, 4, 1), ((0, 1), (1, 2), (1, 3), (1, 4)),
            (((0, 1), 1), ((1, 0), 1), ((4, 1, 2), 5), ((3, 1), 6)),
            ((0, 1), (1, 3)), (((0, 1), 2), ((3,), 3))))

    def test_the_hands_of_the_port_play_no_part(self):
        main = Table([2], [], [])
        for many in range(1, 5):
            branch = Table([many, 1], [(0, 1)], PAIR)
            self.assertEqual(fields(hang(main, 0, branch, 0)), fields(branch.with_hands(0, 2)))

    def test_single_people(self):
        one, pair = Table([3], [], []), Table([1, 2], [(0, 1)], PAIR)
        self.assertEqual(fields(hang(one, 0, one, 0)), fields(one))
        self.assertEqual(fields(hang(pair, 1, one, 0)), fields(pair))
        self.assertEqual(fields(hang(one, 0, pair, 1)),
                         ((3, 1), ((0, 1),), (((1, 0), 1), ((0, 1), 1)), (), ()))

    def test_no_such_person(self):
        main, branch = Table([1, 1], [(0, 1)], []), Table([1, 1, 1], ROW, [])
        ring = Table([1] * 3, RING, [])
        for wrong in (-1, 2, FAR, -FAR):
            for port in (0, -1, 3):
                self.assertEqual(refused(hang, main, wrong, branch, port), no_such("person"))
                self.assertEqual(refused(hang, main, wrong, ring, port), no_such("person"))
        for wrong in (-1, 3, FAR):
            self.assertEqual(refused(hang, main, 0, branch, wrong), no_such("person"))
            self.assertEqual(refused(hang, ring, 0, branch, wrong), no_such("person"))
            self.assertEqual(refused(hang, ring, wrong, ring, wrong), no_such("person"))
        self.assertIsNone(refused(hang, main, 1, branch, 2))

    def test_wrong_ground(self):
        tree, ring = Table([1] * 6, list(zip(range(5), range(1, 6))), []), Table([1] * 3, RING, PAIR * 3)
        self.assertEqual(refused(hang, tree, 0, ring, 0), NO_TREE)
        self.assertEqual(refused(hang, ring, 0, tree, 0), NO_TREE)
        self.assertEqual(refused(hang, ring, 2, ring, 2), NO_TREE)

    def test_too_great(self):
        def tree(people, kinds, shares):
            line = list(zip(range(people - 1), range(1, people)))
            return Table([1] * people, line, (PAIR * 3)[:kinds], shares=[((kind,), 1) for kind in range(shares)])
        for one, other, error in (
                ((6, 6, 3), (2, 1, 1), "people"), ((4, 6, 3), (4, 6, 3), "people"), ((2, 0, 0), (6, 0, 0), "people"),
                ((5, 6, 3), (2, 1, 1), "kinds"), ((4, 4, 2), (3, 3, 2), "kinds"), ((2, 1, 0), (2, 6, 0), "kinds"),
                ((5, 3, 3), (2, 3, 1), "shares"), ((2, 2, 2), (2, 2, 2), "shares"), ((2, 1, 1), (5, 3, 3), "shares")):
            self.assertEqual(refused(hang, tree(*one), 0, tree(*other), 1), too_great(error))
        for one, other in (((5, 3, 2), (2, 3, 1)), ((3, 6, 3), (4, 0, 0)), ((6, 5, 0), (1, 0, 0)),
                           ((1, 0, 0), (6, 6, 3)), ((4, 3, 0), (3, 3, 3))):
            self.assertIsNone(refused(hang, tree(*one), 0, tree(*other), 0))

    def test_example(self):
        branch = Table([1, 3], [(0, 1)], [((0, 1), 1), ((1, 0), 2)])
        self.assertEqual(table_text(hang(Table([2], [], []), 0, branch, 1)),
                         "hands 2 1\ntie 0 1\nkind 1 via 1 0\nkind 2 via 0 1")


def local_trees(seed, many):
    """Trees with a person at whom they have branches."""
    rule = random.Random(seed)
    while many:
        table = random_tree(rule, people=(2, 6), kinds=(0, 5), shares=0.4)
        person = rule.randrange(table.people)
        if refused(branches, table, person) is None:
            many -= 1
            yield table, person


def groups_of(table, person):
    """For each neighbour the people who are nearer to it than to the person, and the person."""
    found = []
    for near in table.neighbours(person):
        group = {near}
        while True:
            more = {other for one in group for other in table.neighbours(one)} | group
            if more - {person} == group:
                break
            group = more - {person}
        found.append(tuple(sorted(group | {person})))
    return found


class Branches(unittest.TestCase):
    def test_against_the_words(self):
        lengths = set()
        for table, person in local_trees(47, 200):
            before = fields(table)
            found = branches(table, person)
            self.assertEqual(fields(table), before)
            self.assertEqual((type(found), {type(part) for part in found}), (list, {tuple}))
            self.assertEqual([people for _, _, people in found], groups_of(table, person))
            kinds, shares = [], []
            for part, port, people in found:
                self.assertEqual(people[port], person)
                self.assertEqual(part.hands, tuple(table.hands[member] for member in people))
                names = list(people)
                _, ties, quick, ways = named(part, names)
                self.assertEqual(ties, {frozenset(tie) for tie in table.ties if set(tie) <= set(people)})
                self.assertEqual(quick, {frozenset(tie) for tie in table.quick if set(tie) <= set(people)})
                self.assertEqual(ways, [kind for kind in table.kinds if set(kind[0]) <= set(people)])
                kinds += ways
                within = [kind for kind, (way, _) in enumerate(table.kinds) if set(way) <= set(people)]
                mapped = [(tuple(within[kind] for kind in members), bound) for members, bound in part.shares]
                self.assertEqual(mapped, [share for share in table.shares if set(share[0]) <= set(within)])
                shares += mapped
            self.assertEqual(sorted(kinds), sorted(table.kinds))
            self.assertEqual(sorted(shares), sorted(table.shares))
            lengths.add(len(found))
        self.assertLessEqual({1, 2, 3}, lengths)

    def test_hanging_them_again(self):
        stuck = 0
        for table, person in local_trees(48, 120):
            whole = Table([table.hands[person]], [], [])
            for part, port, _ in branches(table, person):
                whole = hang(whole, 0, part, port)
            self.assertTrue(is_like(whole, table))
            least = least_dishes(table)
            stuck += least is not None
            self.assertEqual((least_dishes(whole), least_effort(whole)), (least, least_effort(table)))
        self.assertGreater(stuck, 20)

    def test_one_person(self):
        self.assertEqual(branches(Table([3], [], []), 0), [])

    def test_at_an_end(self):
        """At a person with one neighbour the whole tree is the only branch."""
        table = Table([1, 2, 3], ROW, [((0, 1, 2), 2), ((2, 1), 1)], quick=[(0, 1)], shares=[((0, 1), 2)])
        for person in (0, 2):
            [(part, port, people)] = branches(table, person)
            self.assertEqual((fields(part), port, people), (fields(table), person, (0, 1, 2)))

    def test_numbers(self):
        ties = [(0, 4), (4, 2), (2, 1), (4, 3)]
        kinds = [((3, 4), 7), ((1, 2, 4), 5), ((4, 2), 6), ((4, 0), 3), ((4, 3), 8)]
        table = Table([1, 2, 3, 4, 2], ties, kinds, quick=[(1, 2), (3, 4)], shares=[((4, 0), 9), ((1, 2), 4)])
        found = [(fields(part), port, people) for part, port, people in branches(table, 4)]
        self.assertEqual(found, [
            (((1, 2), ((0, 1),), (((1, 0), 3),), (), ()), 1, (0, 4)),
            (((2, 3, 2), ((0, 1), (1, 2)), (((0, 1, 2), 5), ((2, 1), 6)), ((0, 1),), (((0, 1), 4),)), 2, (1, 2, 4)),
            (((4, 2), ((0, 1),), (((0, 1), 7), ((1, 0), 8)), ((0, 1),), (((0, 1), 9),)), 1, (3, 4)),
        ])

    def test_kinds_that_are_not_local(self):
        star = [(0, 1), (0, 2), (0, 3)]
        kinds = [((0, 1), 1), ((2, 0), 1), ((0, 2), 1), ((1, 0, 2), 1), ((3, 0, 1), 1)]
        table = Table([1] * 4, star, kinds, shares=[((0, 1), 1)])
        self.assertEqual(refused(branches, table, 0), not_local(3))
        self.assertEqual(refused(branches, table.without_kind(3), 0), not_local(3))
        self.assertEqual(refused(branches, table.without_kind(4).without_kind(3), 0), not_local(1))
        for person in (1, 2, 3):
            self.assertIsNone(refused(branches, table, person))

    def test_shares_that_are_not_local(self):
        star = [(0, 1), (0, 2), (0, 3)]
        kinds = [((0, 1), 1), ((1, 0), 1), ((0, 2), 1), ((2, 0), 1), ((0, 3), 1), ((3, 0), 1)]
        for shares, kind in (
                ([((0, 1), 1), ((2, 3), 1), ((5, 4), 1)], None), ([((0, 1, 2), 1)], 2), ([((3, 1, 0), 1)], 3),
                ([((5, 3, 1), 1)], 3), ([((5, 3, 2), 1)], 5), ([((4, 5), 1), ((3, 2, 1, 0), 1)], 2),
                ([((0, 4), 1), ((1, 2), 1)], 4), ([((1, 2), 1), ((0, 4), 1)], 4), ([((2, 3, 4), 0), ((0, 1), 0)], 4),
                ([((5,), 1), ((0,), 1)], None)):
            table = Table([1] * 4, star, kinds, shares=shares)
            expected = None if kind is None else not_local(kind)
            self.assertEqual(refused(branches, table, 0), expected, shares)

    def test_errors(self):
        table = Table([1, 1, 1], ROW, [((0, 1, 2), 1)])
        ring = Table([1] * 3, RING, [((0, 1, 2), 1)])
        for wrong in (-1, 3, FAR):
            self.assertEqual(refused(branches, table, wrong), no_such("person"))
            self.assertEqual(refused(branches, ring, wrong), no_such("person"))
        self.assertEqual(refused(branches, ring, 1), NO_TREE)
        self.assertEqual(refused(branches, table, 1), not_local(0))

    def test_what_is_returned_is_not_shared(self):
        table = Table([1, 1, 1], ROW, PAIR)
        branches(table, 1).clear()
        self.assertEqual(len(branches(table, 1)), 2)
