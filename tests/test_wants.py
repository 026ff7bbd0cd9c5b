import functools
import itertools
import random
import unittest

from fullhands.dealing.verdict import StuckVerdict
from fullhands.ground.table import Table
from fullhands.moves.run import play, trace
from fullhands.moves.standing import Standing
from fullhands.rings.wants import judge_single, rings_of_wants
from tests.model import Model
from tests.search import Search
from tests.support import fields, frozen, refused
from tests.test_judge import RING
from tests.test_program import too_great
from tests.webs import random_web

NEED_ONE_HAND = ("WrongGround", ("needed", "one hand"))
FIVE = [(one, other) for other in range(5) for one in range(other)]


@functools.cache
def tables():
    """Webs with one hand each, with few enough standings to search through all of them."""
    rule = random.Random(41)
    around = [((0, 1, 2), 1), ((1, 2, 0), 1), ((2, 0, 1), 1)]
    found = [
        Table([1], [], []),
        Table([1, 1], [(0, 1)], [((0, 1), 1), ((1, 0), 1)]),
        Table([1, 1], [(0, 1)], [((0, 1), 1), ((1, 0), 1)], quick=[(0, 1)]),
        Table([1, 1, 1], RING, around),
        Table([1, 1, 1], RING, around, quick=RING),
        Table([1, 1, 1], RING, around, quick=RING, shares=[((0, 2), 1)]),
        Table([1, 1, 1], RING, [((0, 1, 2), 2), ((2, 0), 1), ((1, 0), 1)], quick=[(0, 1)]),
    ]
    found += [random_web(rule) for _ in range(90)]
    found += [random_web(rule, people=(3, 4), kinds=(3, 5), most=2, quick=0.5, shares=0.2) for _ in range(60)]
    found += [random_web(rule, people=(4, 5), kinds=(3, 5), most=2, shares=0.5, more=0.2) for _ in range(60)]
    return found


def all_rings(table):
    """Point 41 word by word: the rows of pairs that are rings."""
    model = Model(table)
    found = []
    for many in range(2, table.people + 1):
        for people in itertools.permutations(range(table.people), many):
            if people[0] == min(people):
                kinds = [[kind for kind in range(len(table.kinds)) if model.wanted(kind, person) == after]
                         for person, after in zip(people, people[1:] + people[:1])]
                found += [tuple(zip(people, row)) for row in itertools.product(*kinds)]
    return [ring for ring in found if keeps_bounds(model, ring)
            and not (len(ring) == 2 and (ring[0][0], ring[1][0]) in model.quick)]


def keeps_bounds(model, ring):
    return model.keeps_bounds([[kind for _, kind in ring].count(kind) for kind in range(len(model.kinds))])


class Rings(unittest.TestCase):
    def test_against_all_rows_of_pairs(self):
        lengths = set()
        for table in tables():
            before = fields(table)
            found = rings_of_wants(table)
            self.assertEqual(found, sorted(all_rings(table), key=lambda ring: (len(ring), ring)), fields(table))
            self.assertEqual((type(found), tuple(found)), (list, frozen(found)))
            self.assertEqual(fields(table), before)
            lengths.update(map(len, found))
        self.assertEqual(lengths, {2, 3, 4, 5})

    def test_against_a_search_through_all_standings(self):
        """A table with one hand each can get stuck exactly if it has a ring of wants."""
        answers = set()
        for table in tables():
            stuck = bool(Search(table).doomed())
            self.assertEqual(bool(rings_of_wants(table)), stuck, fields(table))
            answers.add((stuck, table.is_tree(), bool(table.quick)))
        self.assertEqual(len(answers), 8)

    def test_order(self):
        """Shorter rings come first, and of equally long ones the lesser kinds."""
        kinds = [((0, 1, 2), 1), ((2, 0), 1), ((1, 0), 1), ((0, 1), 1), ((2, 0), 1)]
        table = Table([1] * 3, RING, kinds)
        self.assertEqual(rings_of_wants(table), [
            ((0, 0), (1, 2)), ((0, 3), (1, 2)),
            ((0, 3), (1, 0), (2, 1)), ((0, 3), (1, 0), (2, 4)),
        ])
        self.assertEqual(len(rings_of_wants(table.with_most(0, 2))), 6)

    def test_mosts_bind(self):
        """Kind 0 could be with both person 0 and person 1."""
        kinds = [((0, 1, 2), 2), ((2, 0), 1)]
        table = Table([1] * 3, RING, kinds)
        self.assertEqual(rings_of_wants(table), [((0, 0), (1, 0), (2, 1))])
        self.assertEqual(rings_of_wants(table.with_most(0, 1)), [])
        self.assertEqual(rings_of_wants(table.with_most(1, 0)), [])
        for bound, rings in ((0, 0), (1, 0), (2, 1), (24, 1)):
            self.assertEqual(len(rings_of_wants(Table([1] * 3, RING, kinds, shares=[((0,), bound)]))), rings)
        for bound, rings in ((0, 0), (2, 0), (3, 1), (24, 1)):
            self.assertEqual(len(rings_of_wants(Table([1] * 3, RING, kinds, shares=[((1, 0), bound)]))), rings)

    def test_quick_ties_only_matter_for_two_people(self):
        kinds = [((0, 1), 1), ((1, 2), 1), ((2, 0), 1), ((1, 0), 1)]
        table = Table([1] * 3, RING, kinds)
        both = [((0, 0), (1, 3)), ((0, 0), (1, 1), (2, 2))]
        self.assertEqual(rings_of_wants(table), both)
        self.assertEqual(rings_of_wants(table.with_quick(1, 2).with_quick(0, 2)), both)
        self.assertEqual(rings_of_wants(table.with_quick(0, 1)), both[1:])
        self.assertEqual(rings_of_wants(table.with_quick(0, 1).with_quick(1, 2).with_quick(0, 2)), both[1:])

    def test_without_kinds(self):
        self.assertEqual(rings_of_wants(Table([1], [], [])), [])
        self.assertEqual(rings_of_wants(Table([1] * 5, FIVE, [])), [])

    def test_a_full_web(self):
        """All people are tied to each other, and each kind goes through all of them."""
        table = Table([1] * 5, FIVE, [((0, 1, 2, 3, 4), 5), ((4, 0, 3, 1, 2), 2), ((2, 1, 0, 4, 3), 1)])
        expected = sorted(all_rings(table), key=lambda ring: (len(ring), ring))
        self.assertEqual(rings_of_wants(table), expected)
        self.assertGreater(len(expected), 10)


class JudgeSingle(unittest.TestCase):
    def check(self, table, rings):
        verdict = judge_single(table)
        if not rings:
            self.assertIsNone(verdict)
            return
        self.assertIsInstance(verdict, StuckVerdict)
        self.assertIs(verdict.holds(table), True)
        self.assertEqual((verdict.lot, verdict.dealing, verdict.run), frozen([verdict.lot, verdict.dealing,
                                                                              verdict.run]))
        for row in verdict.dealing:
            self.assertEqual(sorted(row), [0] * (len(row) - 1) + [1])
        pairs = tuple((person, row.index(1)) for person, row in zip(verdict.lot, verdict.dealing))
        self.assertIn(pairs, [tuple(sorted(ring)) for ring in rings])
        self.check_run(table, verdict.run, pairs)

    def check_run(self, table, run, pairs):
        """The run puts no dish down and leads to exactly the dishes of the ring."""
        model, start = Model(table), Standing.empty(table)
        totals = [standing.total for standing in trace(start, run)]
        self.assertEqual(totals, sorted(totals))
        self.assertEqual([move[0] for move in run].count("enter"), len(pairs))
        found = [(person, kind) for kind, person, _ in model.dishes(play(start, run).places)]
        self.assertEqual(sorted(found), list(pairs))

    def test_against_all_rings(self):
        for table in tables():
            self.check(table, all_rings(table))

    def test_greater_webs(self):
        """Webs of 5 and 6 people with long ways, where a dish often comes through other people of the ring."""
        rule = random.Random(42)
        lengths, far = set(), 0
        for turn in range(250):
            table = random_web(rule, people=(5, 6), kinds=(4, 6), most=3, quick=(0, 0.4, 1)[turn % 3], shares=0.2,
                               bound=6, more=rule.choice((0.1, 0.3, 1)))
            rings = all_rings(table)
            self.check(table, rings)
            verdict = judge_single(table)
            if verdict is not None:
                lengths.add(len(verdict.lot))
                far += len(verdict.run) > len(verdict.lot)
        self.assertLessEqual({2, 3, 4}, lengths)
        self.assertGreater(far, 20)

    def test_dishes_that_came_through_each_other(self):
        """Each dish of the only ring has to pass a person of it who holds another one later."""
        ties = [(0, 1), (1, 2), (2, 3), (0, 3)]
        kinds = [((1, 0, 3), 1), ((0, 3, 2), 1), ((3, 2, 1), 1), ((2, 1, 0), 1)]
        table = Table([1] * 4, ties, kinds)
        self.check(table, all_rings(table))
        # The fewest passes are none at all here, with each dish still at its start.
        self.assertEqual(len(judge_single(table).run), 4)
        for kind in range(4):
            self.check(table.with_most(kind, 0), all_rings(table.with_most(kind, 0)))

    def test_quick_ties_on_the_way(self):
        """On the way to the ring, dishes want each other over quick ties."""
        ties = [(0, 1), (0, 3), (0, 5), (1, 2), (1, 3), (1, 4), (2, 3), (2, 5), (3, 5)]
        table = Table([1] * 6, ties, [((5, 2, 3, 1, 0), 2), ((0, 5), 2), ((2, 5, 3), 2)],
                      quick=[(0, 1), (0, 5), (2, 3), (2, 5), (3, 5)])
        self.check(table, all_rings(table))
        ties = [(0, 1), (1, 2), (2, 3), (0, 3)]
        for kinds in itertools.product([(1, 2, 3), (2, 1, 0), (3, 0, 1), (0, 3, 2)], repeat=3):
            table = Table([1] * 4, ties, [(way, 1) for way in kinds], quick=ties)
            self.check(table, all_rings(table))

    def test_six_people(self):
        people = tuple(range(6))
        ties = list(zip(people, people[1:] + people[:1]))
        for quick in ([], ties):
            table = Table([1] * 6, ties, [(people[at:] + people[:at], 1) for at in people], quick=quick)
            self.check(table, all_rings(table))
            verdict = judge_single(table)
            self.assertEqual((verdict.lot, len(verdict.run)), (people, 6))
            self.assertIsNone(judge_single(Table([1] * 6, ties, [(people, 24)], quick=quick)))
            table = Table([1] * 6, ties, [(people, 5), ((5, 0), 1)], quick=quick)
            self.check(table, all_rings(table))
            # One dish is still at the start of its way, and the others have come 0, 1, .. 4 steps.
            self.assertEqual(len(judge_single(table).run), 6 + 10)

    def test_without_a_ring(self):
        """Every standing becomes empty in every order: some pass or swap is possible until none is left."""
        many = 0
        for table in tables():
            if judge_single(table) is None:
                model = Model(table)
                moves = Search.moves_of(model)
                for places in model.all_places():
                    left = [move for move in moves if move[0] != "enter" and model.reason(places, move) is None]
                    self.assertEqual(not left, places == model.empty())
                    many += 1
        self.assertGreater(many, 500)

    def test_the_table_stays_as_it_is(self):
        for table in tables()[:30]:
            before = fields(table)
            judge_single(table)
            self.assertEqual(fields(table), before)


class Errors(unittest.TestCase):
    def test_more_hands(self):
        for many in (1, 2, 3, 5, 6):
            ties = [(0, person) for person in range(1, many)]
            for person in range(many):
                table = Table([1] * many, ties, []).with_hands(person, 2)
                self.assertEqual(refused(rings_of_wants, table), NEED_ONE_HAND)
                self.assertEqual(refused(judge_single, table), NEED_ONE_HAND)

    def test_six_people(self):
        for kinds in ([], [((0, 1), 1), ((1, 0), 1)]):
            table = Table([1] * 6, [(0, person) for person in range(1, 6)], kinds)
            self.assertEqual(refused(rings_of_wants, table), too_great("people"))
            self.assertIsNone(refused(judge_single, table))
        table = Table([1] * 5, [(0, person) for person in range(1, 5)], [])
        self.assertIsNone(refused(rings_of_wants, table))
