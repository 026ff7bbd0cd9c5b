import functools
import itertools
import random
import unittest

from fullhands.dealing.verdict import SafeVerdict, StuckVerdict
from fullhands.ground.table import Table
from fullhands.moves.run import play, run_effort, trace
from fullhands.moves.standing import Standing
from fullhands.rings.roundtable import goes_forward, judge_round, round_order
from tests.model import Model
from tests.search import Search
from tests.support import fields, frozen, no_such, refused
from tests.test_judge import RING
from tests.webs import random_round

NO_ROUND = ("WrongGround", ("needed", "round"))
FOUR = [(0, 1), (1, 2), (2, 3), (0, 3)]


@functools.cache
def small_rounds():
    """Round tables with few enough standings to search through all of them, with the search."""
    rule = random.Random(43)
    around = [((0, 1, 2), 1), ((1, 2, 0), 1), ((2, 0, 1), 1)]
    tables = [
        Table([1] * 3, RING, [], quick=RING),
        Table([1] * 3, RING, around, quick=RING),
        Table([1] * 3, RING, around, quick=RING, shares=[((0, 1, 2), 2)]),
        Table([1, 1, 2], RING, [((0, 1, 2), 2), ((1, 2, 0), 2), ((2, 1, 0), 2)], quick=RING),
    ]
    tables += [random_round(rule, kinds=(1, 3)) for _ in range(50)]
    tables += [random_round(rule, people=(3, 3), kinds=(2, 4), mixed=False, shares=0.1) for _ in range(70)]
    tables += [random_round(rule, people=(4, 4), hands=(1, 1), kinds=(2, 4), mixed=False, shares=0) for _ in range(40)]
    return [(table, Search(table)) for table in tables]


def great_rounds():
    rule = random.Random(44)
    for turn in range(150):
        yield random_round(rule, people=(3, 6), hands=(1, 4), kinds=(2, 6), most=(6, 12, 24)[turn % 3], shares=0.1,
                           bound=24, mixed=turn % 2 == 0)


def is_next(order, one, other):
    return (order.index(one) + 1) % len(order) == order.index(other)


class Order(unittest.TestCase):
    def test_round(self):
        for table in list(great_rounds()) + [table for table, _ in small_rounds()]:
            order = round_order(table)
            self.assertEqual((type(order), sorted(order), order[0]), (tuple, list(range(table.people)), 0))
            for one, other in zip(order, order[1:] + order[:1]):
                self.assertIn((min(one, other), max(one, other)), table.ties)
            self.assertLess(order[1], order[-1])

    def test_seats(self):
        for seats in itertools.permutations(range(5)):
            ties = list(zip(seats, seats[1:] + seats[:1]))
            order = round_order(Table([1] * 5, ties, [], quick=ties))
            at = seats.index(0)
            line = seats[at:] + seats[:at]
            self.assertEqual(order, line if line[1] < line[-1] else line[:1] + line[:0:-1])

    def test_forward(self):
        ways = set()
        for table in list(great_rounds()) + [table for table, _ in small_rounds()]:
            order = round_order(table)
            for kind, (way, _) in enumerate(table.kinds):
                forward = goes_forward(table, kind)
                ways.add(forward)
                for one, other in zip(way, way[1:]):
                    self.assertIs(forward, is_next(order, one, other))
        self.assertEqual(ways, {True, False})

    def test_past_the_last_person(self):
        table = Table([1] * 4, FOUR, [((3, 0), 1), ((0, 3), 1), ((2, 3, 0, 1), 1), ((1, 0, 3, 2), 1)], quick=FOUR)
        self.assertEqual(round_order(table), (0, 1, 2, 3))
        self.assertEqual([goes_forward(table, kind) for kind in range(4)], [True, False, True, False])


class JudgeRound(unittest.TestCase):
    def check_stuck(self, table, verdict):
        self.assertIsInstance(verdict, StuckVerdict)
        self.assertIs(verdict.holds(table), True)
        self.assertEqual(verdict.lot, tuple(range(table.people)))
        self.assertEqual((verdict.dealing, verdict.run), (frozen(verdict.dealing), frozen(verdict.run)))
        order = round_order(table)
        dealt = [kind for kind in range(len(table.kinds)) if any(row[kind] for row in verdict.dealing)]
        self.assertEqual(len({is_next(order, *table.kinds[kind][0][:2]) for kind in dealt}), 1)
        self.assertLessEqual({move[0] for move in verdict.run}, {"enter", "pass"})
        totals = [standing.total for standing in trace(Standing.empty(table), verdict.run)]
        self.assertEqual(totals, sorted(totals))
        self.assertEqual(totals[-1], sum(table.hands))
        self.check_places(table, verdict)

    def check_places(self, table, verdict):
        standing = play(Standing.empty(table), verdict.run)
        for person, row in zip(verdict.lot, verdict.dealing):
            self.assertEqual(tuple(standing.dishes(kind, person) for kind in range(len(table.kinds))), row)
        self.assertTrue(Model(table).is_knot(standing.places, verdict.lot))

    def check_safe(self, table, verdict):
        self.assertIsInstance(verdict, SafeVerdict)
        self.assertIs(verdict.holds(table), True)
        self.assertEqual((verdict.ground, len(verdict.shorts)), ("round", 2))
        order = round_order(table)
        for forward, (lot, people) in zip((True, False), verdict.shorts):
            self.assertEqual(lot, tuple(range(table.people)))
            kinds = [(way, most if is_next(order, *way[:2]) is forward else 0) for way, most in table.kinds]
            model = Model(Table(table.hands, table.ties, kinds, shares=table.shares))
            self.assertEqual((type(people), people), (tuple, tuple(sorted(set(people)))))
            self.assertTrue(people)
            supply = sum(most for kind, (_, most) in enumerate(kinds)
                         if any(model.can_hold(lot, kind, person) for person in people)
                         and not any(kind in members for members, _ in table.shares))
            for members, bound in table.shares:
                supply += min(bound, sum(kinds[kind][1] for kind in members
                                         if any(model.can_hold(lot, kind, person) for person in people)))
            self.assertGreater(sum(table.hands[person] for person in people), supply)

    def check(self, table, verdict):
        (self.check_stuck if verdict.STUCK else self.check_safe)(table, verdict)

    def test_against_a_search_through_all_standings(self):
        answers = set()
        for table, search in small_rounds():
            before = fields(table)
            verdict = judge_round(table)
            self.assertEqual(fields(table), before)
            self.assertIs(verdict.STUCK, bool(search.doomed()), before)
            self.check(table, verdict)
            answers.add((verdict.STUCK, table.people, bool(table.shares)))
        self.assertGreaterEqual(len(answers), 7)

    def test_greater_rounds(self):
        answers, passes = set(), 0
        for table in great_rounds():
            verdict = judge_round(table)
            self.check(table, verdict)
            answers.add((verdict.STUCK, table.people))
            if verdict.STUCK:
                passes += run_effort(verdict.run) > sum(table.hands)
        self.assertEqual(answers, set(itertools.product((True, False), range(3, 7))))
        self.assertGreater(passes, 10)

    def test_both_directions(self):
        """Stuck only forward, only backward, both, and neither one although together they could fill all hands."""
        forward, backward = [((0, 1, 2), 2), ((2, 0), 1)], [((0, 2, 1), 2), ((1, 0), 1)]
        for kinds, stuck in ((forward, True), (backward, True), (forward + backward, True),
                             (forward[:1] + backward[:1], False), (forward[1:] + backward[:1], False)):
            table = Table([1] * 3, RING, kinds, quick=RING)
            self.assertIs(judge_round(table).STUCK, stuck)
            self.check(table, judge_round(table))

    def test_safe_ones_clear_in_every_order(self):
        """Some pass or swap is possible in every standing that is not empty, whether it can be come to or not."""
        many = 0
        for table, search in small_rounds():
            if not judge_round(table).STUCK:
                moves = Search.moves_of(search.model)
                every = search.model.all_places()
                for places in every[::len(every) // 300 + 1] + every[-30:]:
                    left = [move for move in moves
                            if move[0] != "enter" and search.model.reason(places, move) is None]
                    self.assertEqual(not left, places == search.model.empty())
                    many += 1
        self.assertGreater(many, 1000)

    def test_all_hands(self):
        people = tuple(range(6))
        ties = list(zip(people, people[1:] + people[:1]))
        table = Table([4] * 6, ties, [(people, 20), ((5, 0), 4)], quick=ties)
        verdict = judge_round(table)
        self.check(table, verdict)
        self.assertEqual(run_effort(verdict.run), 24 + 4 * (1 + 2 + 3 + 4))
        for kind, most in ((0, 19), (1, 3)):
            self.assertIs(judge_round(table.with_most(kind, most)).STUCK, False)
            self.check(table.with_most(kind, most), judge_round(table.with_most(kind, most)))


class Errors(unittest.TestCase):
    def test_wrong_ground(self):
        kinds = [((0, 1), 1), ((1, 0), 1)]
        five = FOUR + [(0, 2)]
        tables = [
            Table([1], [], []), Table([1, 1], [(0, 1)], kinds, quick=[(0, 1)]),
            Table([1] * 3, RING[:2], kinds, quick=RING[:2]), Table([1] * 4, five, kinds, quick=five),
            Table([1] * 3, RING, kinds, quick=RING[:2]), Table([1] * 3, RING, kinds),
            Table([1] * 4, FOUR, kinds, quick=FOUR[1:]),
            Table([1] * 4, RING + [(0, 3)], kinds, quick=RING + [(0, 3)]),
        ]
        for table in tables:
            self.assertEqual(refused(round_order, table), NO_ROUND)
            self.assertEqual(refused(judge_round, table), NO_ROUND)
            for kind in range(len(table.kinds)):
                self.assertEqual(refused(goes_forward, table, kind), NO_ROUND)
            for kind in (-1, len(table.kinds), 10 ** 40):
                self.assertEqual(refused(goes_forward, table, kind), no_such("kind"))

    def test_no_such_kind(self):
        table = Table([1] * 3, RING, [((0, 1), 1), ((1, 0), 1)], quick=RING)
        for kind in (-1, 2, 6, -10 ** 40):
            self.assertEqual(refused(goes_forward, table, kind), no_such("kind"))
        self.assertIsNone(refused(goes_forward, table, 1))
