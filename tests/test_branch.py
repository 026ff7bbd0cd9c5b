import itertools
import random
import unittest

from fullhands.ground.table import Table
from fullhands.hanging.branch import chain_loads, dish_loads, effort_loads, least_with
from fullhands.hanging.hang import hang
from fullhands.hanging.loads import Loads
from fullhands.least.dishes import least_dishes
from fullhands.least.effort import least_effort
from tests.model import Model
from tests.search import random_tree
from tests.support import fields, no_such, refused
from tests.test_hang import pairs_of_trees
from tests.test_judge import NO_TREE, RING
from tests.test_loads import some
from tests.test_program import too_great

FAR = 10 ** 40
HUGE = 10 ** 30
ROW = [(0, 1), (1, 2)]
PAIR = [((0, 1), 1), ((1, 0), 1)]
CALLS = ((dish_loads, least_dishes), (effort_loads, least_effort))


def small_trees(seed, many, **ranges):
    rule = random.Random(seed)
    for turn in range(many):
        yield random_tree(rule, **{"people": (1, 4), "kinds": (2, 5), "quick": 0.1,
                                   "shares": 0.3 if turn % 2 else 0, **ranges})


def costs_of_dealings(table):
    """For each dealing of a slow lot its hands and its cost."""
    model = Model(table)
    for lot in model.lots(slow=True):
        for rows in model.dealings(lot):
            yield (sum(table.hands[person] for person in lot),
                   sum(many * (1 + table.kinds[kind][0].index(person)) for person, row in zip(lot, rows)
                       for kind, many in enumerate(row) if many))


class LoadsOfTrees(unittest.TestCase):
    def test_by_the_hands_of_the_person(self):
        ends = set()
        for table in small_trees(45, 80):
            before = fields(table)
            for person in range(table.people):
                for call, least in CALLS:
                    found = call(table, person)
                    self.assertIsInstance(found, Loads)
                    expected = [least(table.with_hands(person, hands)) for hands in range(1, 5)]
                    self.assertEqual(list(found), expected, before)
                    ends.add(expected.count(None))
            self.assertEqual(fields(table), before)
        self.assertEqual(ends, {0, 1, 2, 3, 4})

    def test_against_all_dealings(self):
        for table in small_trees(46, 25, people=(2, 3), kinds=(2, 4)):
            for person in range(table.people):
                rows = [list(costs_of_dealings(table.with_hands(person, hands))) for hands in range(1, 5)]
                self.assertEqual(list(dish_loads(table, person)), [min([hands for hands, _ in row], default=None)
                                                                   for row in rows])
                self.assertEqual(list(effort_loads(table, person)), [min([cost for _, cost in row], default=None)
                                                                     for row in rows])

    def test_a_hung_tree(self):
        """The loads of a hung tree are the sum of the loads of both."""
        kinds = set()
        for main, person, branch, port in pairs_of_trees(47, 300, shares=0.2, quick=0.1):
            whole = hang(main, person, branch, port)
            for call, _ in CALLS:
                loads = call(main, person) + call(branch, port)
                self.assertEqual(call(whole, person), loads, (fields(main), person, fields(branch), port))
                kinds.add((loads == call(main, person), loads == call(branch, port)))
        self.assertEqual(len(kinds), 4)

    def test_what_is_filled_from_both_sides(self):
        """One hand of the person is filled by each branch, which alone could not get stuck with two hands there."""
        branch = Table([1, 1], [(0, 1)], PAIR)
        whole = hang(branch, 0, branch, 0)
        self.assertEqual(list(dish_loads(branch, 0)), [2, None, None, None])
        self.assertEqual(list(dish_loads(whole, 0)), [2, 4, None, None])
        self.assertEqual(list(effort_loads(whole, 0)), [2, 4, None, None])

    def test_exchanging_branches(self):
        """A single person tells two branches apart whose loads differ, and nothing tells those with the same ones."""
        trees = [(table, person) for table in small_trees(48, 60, people=(1, 3), shares=0)
                 for person in range(table.people)]
        alike = different = 0
        for (one, port), (other, other_port) in itertools.combinations(trees[::3], 2):
            first, second = dish_loads(one, port), dish_loads(other, other_port)
            at = first.first_difference(second)
            if at is not None:
                different += 1
                single = Table([at], [], [])
                self.assertNotEqual(least_dishes(hang(single, 0, one, port)),
                                    least_dishes(hang(single, 0, other, other_port)))
            elif len(one.kinds) <= 4 and len(other.kinds) <= 4:
                alike += 1
                for main in (Table([2, 1], [(0, 1)], PAIR), Table([1, 1], [(0, 1)], []),
                             Table([3, 1, 2], ROW, [((0, 1), 2), ((2, 1, 0), 2)])):
                    self.assertEqual(least_dishes(hang(main, 0, one, port)),
                                     least_dishes(hang(main, 0, other, other_port)))
        self.assertGreater(min(alike, different), 20)

    def test_errors(self):
        tree, ring = Table([1, 1, 1], ROW, PAIR), Table([1] * 3, RING, PAIR)
        for call, _ in CALLS:
            for wrong in (-1, 3, FAR, -FAR):
                self.assertEqual(refused(call, tree, wrong), no_such("person"))
                self.assertEqual(refused(call, ring, wrong), no_such("person"))
            for person in range(3):
                self.assertEqual(refused(call, ring, person), NO_TREE)
                self.assertIsNone(refused(call, tree, person))

    def test_example(self):
        branch = Table([1, 1], [(0, 1)], PAIR)
        loads = dish_loads(branch, 0)
        self.assertEqual((list(loads), list(loads + loads)), ([2, None, None, None], [2, 4, None, None]))


def endless(number):
    return float("inf") if number is None else number


def by_the_words(table, hung, least):
    """The result of point 48."""
    loads = {}
    for person, more in hung:
        loads[person] = loads[person] + more if person in loads else more
    people = list(loads)
    found = [endless(loads[person][table.hands[person]]) for person in people]
    for row in itertools.product(*[range(table.hands[person]) for person in people]):
        tree = table
        for person, taken in zip(people, row):
            tree = tree.with_hands(person, table.hands[person] - taken)
        found.append(sum(endless(loads[person][taken]) for person, taken in zip(people, row)) + endless(least(tree)))
    return None if min(found) == float("inf") else min(found)


class LeastWith(unittest.TestCase):
    def check(self, table, hung):
        results = []
        for by_effort, least in ((False, least_dishes), (True, least_effort)):
            expected = by_the_words(table, hung, least)
            self.assertEqual(least_with(table, hung, by_effort=by_effort), expected)
            self.assertEqual(least_with(table, tuple([list(pair) for pair in hung]), by_effort=by_effort), expected)
            results.append(expected)
        self.assertEqual(least_with(table, hung), results[0])
        return results[0]

    def test_loads_that_are_no_trees(self):
        rule = random.Random(49)
        rows = [Loads(row) for row in some(50, 60)] + [Loads.none(), Loads([0, 0, 0, 0]), Loads([FAR] * 4)]
        found = set()
        for table in small_trees(51, 70, hands=(1, 3)):
            before = fields(table)
            for many in range(4):
                hung = [(rule.randrange(table.people), rule.choice(rows)) for _ in range(many)]
                kept = [(person, list(loads)) for person, loads in hung]
                least = self.check(table, hung)
                self.assertEqual([(person, list(loads)) for person, loads in hung], kept)
                found.add((many, least is None, len({person for person, _ in hung})))
            self.assertEqual(fields(table), before)
        self.assertLessEqual({(0, True, 0), (0, False, 0), (1, True, 1), (1, False, 1), (2, False, 1), (2, False, 2),
                              (3, False, 1), (3, False, 2), (3, False, 3)}, found)

    def test_no_pairs(self):
        for table in small_trees(52, 30):
            self.assertEqual(least_with(table, []), least_dishes(table))
            self.assertEqual(least_with(table, (), by_effort=True), least_effort(table))

    def test_against_the_tree_with_the_branches(self):
        rule = random.Random(53)
        many = {}
        for _ in range(600):
            main = random_tree(rule, people=(1, 3), kinds=(0, 3), hands=(1, 3), quick=0, shares=0.1)
            whole, hung = main, []
            for turn in range(rule.randint(1, 3)):
                branch = random_tree(rule, people=(2, 3), kinds=(2, 3), hands=(1, 2), quick=0, shares=0.1)
                person, port = rule.randrange(main.people), rule.randrange(branch.people)
                if refused(hang, whole, person, branch, port) is None:
                    whole = hang(whole, person, branch, port)
                    hung.append((person, branch, port))
            least = least_dishes(whole)
            dishes = [(person, dish_loads(branch, port)) for person, branch, port in hung]
            effort = [(person, effort_loads(branch, port)) for person, branch, port in hung]
            self.assertEqual(least_with(main, dishes), least)
            self.assertEqual(least_with(main, effort, by_effort=True), least_effort(whole))
            key = (len(hung), len({person for person, _, _ in hung}), least is None)
            many[key] = many.get(key, 0) + 1
        for key in ((1, 1, False), (2, 1, False), (2, 2, False), (1, 1, True), (2, 2, True)):
            self.assertGreater(many.get(key, 0), 2, key)

    def test_a_single_person(self):
        for hands in range(1, 5):
            single = Table([hands], [], [])
            self.assertIsNone(least_with(single, []))
            self.assertEqual(least_with(single, [(0, Loads([1, 3, 5, 9]))]), [1, 3, 5, 9][hands - 1])
            self.assertEqual(least_with(single, [(0, Loads([1, 3, 5, 9]))] * 2), [1, 2, 4, 6][hands - 1])
            self.assertIsNone(least_with(single, [(0, Loads.none())] * 3))

    def test_errors(self):
        tree, ring = Table([1, 1, 1], ROW, PAIR), Table([1] * 3, RING, PAIR)
        loads = Loads([1, 2, 3, 4])
        good = [(0, loads), (1, loads), (2, loads), (1, loads), (0, loads)]
        for by_effort in (False, True):
            for wrong in (-1, 3, FAR):
                for table in (tree, ring):
                    for hung in ([(wrong, loads)], good[:2] + [(wrong, loads)], good[:3] + [(wrong, loads)],
                                 [(wrong, loads)] + good):
                        self.assertEqual(refused(least_with, table, hung, by_effort=by_effort), no_such("person"))
            for many in range(6):
                self.assertEqual(refused(least_with, ring, good[:many], by_effort=by_effort), NO_TREE)
                self.assertEqual(refused(least_with, tree, good[:many], by_effort=by_effort),
                                 too_great("hung") if many > 3 else None)
            self.assertEqual(refused(least_with, tree, [(1, loads)] * 4, by_effort=by_effort), too_great("hung"))

    def test_by_keyword_only(self):
        with self.assertRaises(TypeError):
            least_with(Table([1], [], []), [], True)


def chained(piece, outer, inner, many):
    """The chain as a tree, built up from its inner end, and the number of its outer port."""
    chain, port = piece, outer
    for _ in range(many - 1):
        chain, port = hang(piece, inner, chain, port), outer
    return chain, port


def pieces(seed, people, kinds, many):
    """Pieces with two ports, many of which can get stuck in a chain."""
    rule = random.Random(seed)
    for _ in range(many):
        table = random_tree(rule, people=people, kinds=kinds, hands=(1, 3), most=3, quick=0, shares=0)
        if table.people > 1:
            outer, inner = rule.sample(range(table.people), 2)
            yield table, outer, inner


class ChainLoads(unittest.TestCase):
    def test_chains_that_fit(self):
        lengths = {}
        for people, kinds in (((2, 2), (1, 1)), ((2, 2), (1, 2)), ((3, 3), (2, 3)), ((2, 3), (1, 3))):
            for piece, outer, inner in pieces(54, people, kinds, 60):
                for many in range(1, 7):
                    if many * (piece.people - 1) + 1 <= 6 and many * len(piece.kinds) <= 6:
                        chain, port = chained(piece, outer, inner, many)
                        expected = dish_loads(chain, port)
                        self.assertEqual(chain_loads(piece, outer, inner, many), expected, fields(piece))
                        key = (many, list(expected) == [None] * 4)
                        lengths[key] = lengths.get(key, 0) + 1
        self.assertLessEqual({(1, False), (2, False), (3, False), (1, True), (2, True), (3, True), (5, True)},
                             set(lengths))

    def test_step_by_step(self):
        """By point 48, whatever the number of people; from four pieces on nothing changes."""
        changes = set()
        for piece, outer, inner in pieces(55, (2, 4), (2, 6), 120):
            before = fields(piece)
            loads = dish_loads(piece, outer)
            for many in range(1, 8):
                self.assertEqual(chain_loads(piece, outer, inner, many), loads)
                later = Loads([by_the_words(piece.with_hands(outer, hands), [(inner, loads)], least_dishes)
                               for hands in range(1, 5)])
                if later != loads:
                    changes.add(many + 1)
                loads = later
            for many in (10 ** 15, HUGE - 1, HUGE):
                self.assertEqual(chain_loads(piece, outer, inner, many), loads)
            self.assertEqual(fields(piece), before)
        self.assertIn(2, changes)
        self.assertLessEqual(changes, {2, 3, 4})

    def test_up_to_four_pieces_count(self):
        """Each piece more fills one hand more of the next port: 1 and 3, 2 and 2, 3 and 1."""
        kinds = [((0, 1), 4), ((1, 0), 3), ((0, 2), 1), ((2, 0), 1)]
        piece = Table([1, 4, 1], [(0, 1), (0, 2)], kinds, shares=[((0, 1, 2, 3), 5)])
        rows = [list(chain_loads(piece, 0, 1, many)) for many in (1, 2, 3, 4, 5, HUGE)]
        self.assertEqual(rows, [[2, None, None, None], [2, 7, None, None], [2, 7, 12, None]] + [[2, 7, 12, 17]] * 3)

    def test_pieces_that_help_each_other(self):
        """With up to three pieces the chain fits into a tree, and each piece more changes an entry."""
        piece = Table([1, 3], [(0, 1)], [((0, 1), 4), ((1, 0), 3)], shares=[((0, 1), 4)])
        for many, entries in ((1, [4, None, None, None]), (2, [4, 8, None, None]), (3, [4, 8, 12, None])):
            self.assertEqual(list(chain_loads(piece, 0, 1, many)), entries)
            self.assertEqual(list(dish_loads(*chained(piece, 0, 1, many))), entries)
        # With a fourth piece the other three can get stuck at its inner port, whatever hands the outer one has.
        self.assertEqual(list(chain_loads(piece, 0, 1, 4)), [4, 8, 12, 12])
        self.assertEqual(list(chain_loads(piece, 0, 1, HUGE)), [4, 8, 12, 12])

    def test_errors(self):
        tree, ring = Table([1, 1, 1], ROW, PAIR), Table([1] * 3, RING, PAIR)
        for many in (1, 2, HUGE):
            for table in (tree, ring):
                for wrong in (-1, 3, FAR):
                    for other in (0, 2, wrong):
                        self.assertEqual(refused(chain_loads, table, wrong, other, many), no_such("person"))
                        self.assertEqual(refused(chain_loads, table, other, wrong, many), no_such("person"))
                for person in range(3):
                    self.assertEqual(refused(chain_loads, table, person, person, many), no_such("port"))
            self.assertEqual(refused(chain_loads, ring, 0, 1, many), NO_TREE)
            self.assertIsNone(refused(chain_loads, tree, 0, 1, many))
