import copy
import itertools
import unittest

from fullhands.dealing.core import core, is_core, placing
from fullhands.dealing.deal import deal, dealt_standing, is_dealing
from fullhands.dealing.lots import lots
from fullhands.ground.table import Table
from fullhands.moves.run import play, run_effort, trace
from fullhands.moves.standing import Standing
from tests.model import Model, each_lot
from tests.support import frozen, mixed, refused, thawed
from tests.test_deal import BAD_DEALING
from tests.test_lots import BAD_LOT, wrong_lots

NO_TREE = ("WrongGround", ("needed", "tree"))
NOT_CORE = ("NotCore",)
ROW = [(0, 1), (1, 2), (2, 3)]
# Kinds 0 to 2 go up the row by one tie, kinds 3 to 5 down.
STEPS = [((0, 1), 4), ((1, 2), 4), ((2, 3), 4), ((1, 0), 4), ((2, 1), 4), ((3, 2), 4)]


def row_table(hands):
    return Table(hands, ROW, STEPS)


def all_ways(people, ties):
    """All ways in a tree, the long ones first."""
    ways, line = [], [(person,) for person in range(people)]
    while line:
        way = line.pop()
        for one, other in ties + [(other, one) for one, other in ties]:
            if one == way[-1] and other not in way:
                ways.append(way + (other,))
                line.append(way + (other,))
    return sorted(ways, key=lambda way: (-len(way), way))


def trees():
    """Trees of all shapes of up to 6 people, each with several choices of hands and kinds."""
    for people in range(2, 7):
        for near in itertools.product(*[range(person) for person in range(1, people)]):
            ties = [(other, person + 1) for person, other in enumerate(near)]
            ways = all_ways(people, ties)
            for turn, stride in enumerate((1, 3, 7)):
                chosen = [ways[at * stride % len(ways)] for at in range(min(6, len(ways)))]
                kinds = [(way, 3 + (turn + at) % 4) for at, way in enumerate(chosen)]
                hands = [1 + (person + turn) * (turn + 1) % 4 for person in range(people)]
                yield Table(hands, ties, kinds, shares=[((0, 1), 6)] if turn == 2 else [])


def round_trips():
    """Trees of all shapes of up to 6 people in which the lot of all people has cores.

    The ways go from each leaf to the next one around the tree, so each tie is passed once in each direction.
    """
    for people in range(2, 7):
        for near in itertools.product(*[range(person) for person in range(1, people)]):
            ties = [(other, person + 1) for person, other in enumerate(near)]
            degrees = [sum(person in tie for tie in ties) for person in range(people)]
            ends = {(way[0], way[-1]): way for way in all_ways(people, ties)}
            leaves = [person for person in around(0, None, ties) if degrees[person] == 1]
            kinds = [(ends[leaf, following], 24) for leaf, following in zip(leaves, leaves[1:] + leaves[:1])]
            if max(degrees) <= 4:
                for more in (0, 1):
                    yield Table([min(4, many + more) for many in degrees], ties, kinds)


def around(person, before, ties):
    """The people of the tree in the order in which a walk around it comes to them first."""
    found = [person]
    for one, other in ties:
        if person in (one, other) and before not in (one, other):
            found.extend(around(other if person == one else one, person, ties))
    return found


def dealt_lots():
    """Lots of these trees that can be dealt, each with a dealing of it."""
    for table in trees():
        for lot in lots(table):
            dealing = deal(table, lot)
            if dealing is not None:
                yield table, lot, dealing
    for table in round_trips():
        people, model = tuple(range(table.people)), Model(table)
        dealings = model.dealings(people)
        cores = [rows for rows in dealings if model.is_core(people, rows)]
        for rows in dealings[:1] + cores[:2] + cores[-1:] + dealings[-1:]:
            yield table, people, rows


def cut_lots(model, lot, dealing):
    """The lots of all cores to which cutting in any order leads."""
    rows = dict(zip(lot, dealing))
    found, line = set(), [frozenset(lot)]
    while line:
        people = line.pop()
        loose = []
        for one, other in model.ties:
            if one in people and other in people:
                loose.extend([(p, q) for p, q in ((one, other), (other, one))
                              if not any(rows[p][kind] and model.wanted(kind, p) == q for kind in range(len(rows[p])))])
        if not loose:
            found.add(tuple(sorted(people)))
        for person, other in loose:
            ties = [tie for tie in model.ties if set(tie) <= people and set(tie) != {person, other}]
            side = {person}
            for _ in people:
                side |= {member for tie in ties if side & set(tie) for member in tie}
            line.append(frozenset(side))
    return found


class IsCore(unittest.TestCase):
    def test_all_dealings_of_small_tables(self):
        found = set()
        for table, model, lot in each_lot():
            for rows in model.dealings(lot):
                expected = model.is_core(lot, rows)
                found.add((expected, table.is_tree()))
                self.assertIs(is_core(table, lot, rows), expected, (table.hands, lot, rows))
        self.assertEqual(len(found), 4)

    def test_row(self):
        table = row_table([1, 2, 2, 1])
        right = ((1, 0, 0, 0, 0, 0), (0, 1, 0, 1, 0, 0), (0, 0, 1, 0, 1, 0), (0, 0, 0, 0, 0, 1))
        self.assertIs(is_core(table, (0, 1, 2, 3), right), True)
        for at, row in ((1, (0, 2, 0, 0, 0, 0)), (1, (0, 0, 0, 2, 0, 0)), (2, (0, 0, 2, 0, 0, 0)),
                        (2, (0, 0, 0, 0, 2, 0))):
            self.assertIs(is_core(table, (0, 1, 2, 3), right[:at] + (row,) + right[at + 1:]), False)

    def test_forms(self):
        table = row_table([1, 1, 1, 1])
        rows = ((1, 0, 0, 0, 0, 0), (0, 0, 0, 1, 0, 0))
        for form in (frozen, thawed, mixed):
            lot, given = form((0, 1)), form(rows)
            before = copy.deepcopy((lot, given))
            self.assertIs(is_core(table, lot, given), True)
            self.assertEqual((lot, given), before)

    def test_ties_to_others_play_no_part(self):
        self.assertIs(is_core(row_table([1, 1, 1, 1]), (1, 2), ((0, 1, 0, 0, 0, 0), (0, 0, 0, 0, 1, 0))), True)

    def test_quick_ties_play_no_part(self):
        table = row_table([1, 1, 1, 1]).with_quick(0, 1)
        self.assertIs(is_core(table, (0, 1), ((1, 0, 0, 0, 0, 0), (0, 0, 0, 1, 0, 0))), True)

    def test_round_table(self):
        ring = [(0, 1), (1, 2), (0, 2)]
        kinds = [((0, 1), 1), ((1, 2), 1), ((2, 0), 1), ((1, 0), 1), ((2, 1), 1), ((0, 2), 1)]
        table = Table([1, 1, 1], ring, kinds)
        rows = ((1, 0, 0, 0, 0, 0), (0, 1, 0, 0, 0, 0), (0, 0, 1, 0, 0, 0))
        self.assertIs(is_core(table, (0, 1, 2), rows), False)
        table = Table([2, 2, 2], ring, kinds)
        rows = ((1, 0, 0, 0, 0, 1), (0, 1, 0, 1, 0, 0), (0, 0, 1, 0, 1, 0))
        self.assertIs(is_core(table, (0, 1, 2), rows), True)


class Core(unittest.TestCase):
    def check(self, table, lot, dealing):
        found = core(table, lot, dealing)
        self.assertEqual(found, frozen(found))
        people, rows = found
        self.assertGreaterEqual(len(people), 2)
        self.assertTrue(is_dealing(table, people, rows))
        self.assertTrue(Model(table).is_core(people, rows))
        self.assertEqual(rows, tuple([tuple(row) for person, row in zip(lot, dealing) if person in people]))
        return people

    def test_trees(self):
        """The lot that is left is one to which some order of cutting leads."""
        cut = set()
        for table, lot, dealing in dealt_lots():
            people = self.check(table, lot, dealing)
            self.assertIn(people, cut_lots(Model(table), lot, dealing))
            cut.add((len(lot), len(people)))
        self.assertLessEqual({(2, 2), (6, 2), (6, 6), (6, 4), (5, 3), (5, 5)}, cut)

    def test_all_dealings_of_small_trees(self):
        for table, model, lot in each_lot():
            if table.is_tree():
                for rows in model.dealings(lot):
                    people = self.check(table, lot, rows)
                    self.assertIn(people, cut_lots(model, lot, rows))
                    if model.is_core(lot, rows):
                        self.assertEqual(core(table, lot, rows), (lot, rows))

    def test_cut(self):
        table = row_table([1, 2, 2, 1])
        left = ((1, 0, 0, 0, 0, 0), (0, 0, 0, 2, 0, 0), (0, 0, 1, 0, 1, 0), (0, 0, 0, 0, 0, 1))
        # Person 1 is dealt nothing that wants 2; the side of 1 is kept.
        self.assertEqual(core(table, (0, 1, 2, 3), left), ((0, 1), left[:2]))
        right = ((1, 0, 0, 0, 0, 0), (0, 1, 0, 1, 0, 0), (0, 0, 2, 0, 0, 0), (0, 0, 0, 0, 0, 1))
        self.assertEqual(core(table, (0, 1, 2, 3), right), ((2, 3), right[2:]))

    def test_cut_twice(self):
        table = row_table([1, 1, 1, 1])
        rows = ((1, 0, 0, 0, 0, 0), (0, 1, 0, 0, 0, 0), (0, 0, 1, 0, 0, 0), (0, 0, 0, 0, 0, 1))
        self.assertEqual(core(table, (0, 1, 2, 3), rows), ((2, 3), rows[2:]))
        rows = ((1, 0, 0, 0, 0, 0), (0, 1, 0, 0, 0, 0), (0, 0, 0, 0, 1, 0), (0, 0, 0, 0, 0, 1))
        self.assertEqual(core(table, [0, 1, 2, 3], thawed(rows)), ((1, 2), rows[1:3]))

    def test_forms(self):
        table = row_table([1, 1, 1, 1])
        rows = ((1, 0, 0, 0, 0, 0), (0, 0, 0, 1, 0, 0), (0, 0, 0, 0, 1, 0))
        for form in (frozen, thawed, mixed):
            lot, given = form((0, 1, 2)), form(rows)
            before = copy.deepcopy((lot, given))
            found = core(table, lot, given)
            self.assertEqual((lot, given), before)
            self.assertEqual((found, frozen(found)), (((0, 1), rows[:2]), found))


class Placing(unittest.TestCase):
    def check(self, table, lot, rows):
        """The run places exactly the core, by enters and passes that put nothing down, with the effort of point 26."""
        run = placing(table, lot, rows)
        self.assertIsInstance(run, list)
        self.assertLessEqual({move[0] for move in run}, {"enter", "pass"})
        places = [standing.places for standing in trace(Standing.empty(table), run)]
        self.assertEqual(places[-1], dealt_standing(table, lot, rows).places)
        totals = [sum(map(sum, some)) for some in places]
        self.assertTrue(all(later >= earlier for earlier, later in zip(totals, totals[1:])))
        total = sum(table.hands[person] for person in lot)
        self.assertEqual(totals[-1], total)
        self.assertEqual(len([move for move in run if move[0] == "enter"]), total)
        effort = sum(many * (1 + table.kinds[kind][0].index(person)) for person, row in zip(lot, rows)
                     for kind, many in enumerate(row) if many)
        self.assertEqual((run_effort(run), len(run)), (effort, effort))

    def test_trees(self):
        sizes = set()
        for table, lot, dealing in dealt_lots():
            people, rows = core(table, lot, dealing)
            self.check(table, people, rows)
            sizes.add(len(people))
        self.assertEqual(sizes, {2, 3, 4, 5, 6})

    def test_all_cores_of_small_trees(self):
        for table, model, lot in each_lot():
            if table.is_tree():
                for rows in model.dealings(lot):
                    if model.is_core(lot, rows):
                        self.check(table, lot, rows)
                    else:
                        self.assertEqual(refused(placing, table, lot, rows), NOT_CORE)

    def test_ways_through_the_lot(self):
        """All dishes come through people who are full in the end."""
        people = tuple(range(6))
        ties = [(at, at + 1) for at in range(5)]
        table = Table([4] * 6, ties, [(people, 20), (people[::-1], 20)])
        rows = ((4, 0), (3, 1), (1, 3), (2, 2), (1, 3), (0, 4))
        self.check(table, people, rows)
        table = Table([1, 2, 2, 2, 2, 1], ties, table.kinds)
        self.check(table, people, ((1, 0), (1, 1), (1, 1), (1, 1), (1, 1), (0, 1)))

    def test_ways_from_outside_of_the_lot(self):
        ties = [(0, 1), (1, 2), (2, 3), (3, 4), (4, 5)]
        table = Table([1, 1, 2, 2, 1, 1], ties, [((0, 1, 2, 3, 4), 3), ((5, 4, 3, 2, 1), 3)])
        self.check(table, (2, 3), ((2, 0), (0, 2)))

    def test_star(self):
        star = [(0, other) for other in range(1, 6)]
        kinds = [((1, 0, 2), 24), ((2, 0, 3), 24), ((3, 0, 4), 24), ((4, 0, 5), 24), ((5, 0, 1), 24)]
        table = Table([4, 1, 2, 3, 4, 1], star, kinds)
        rows = ((1, 1, 1, 1, 0), (0, 2, 0, 0, 0), (0, 0, 3, 0, 0), (0, 0, 0, 4, 0), (0, 0, 0, 0, 1))
        self.check(table, (0, 2, 3, 4, 5), rows)
        # The hands of person 0 do not suffice for a dish to each of five others.
        rows = ((0, 1, 1, 1, 1), (1, 0, 0, 0, 0)) + rows[1:]
        self.assertEqual(refused(placing, table, (0, 1, 2, 3, 4, 5), rows), NOT_CORE)

    def test_mosts_and_shares_that_are_used_up(self):
        kinds = [((0, 1, 2), 2), ((2, 1, 0), 2)]
        table = Table([1, 2, 1], [(0, 1), (1, 2)], kinds, shares=[((0, 1), 4)])
        self.check(table, (0, 1, 2), ((1, 0), (1, 1), (0, 1)))

    def test_forms(self):
        table = row_table([1, 1, 1, 1])
        rows = ((1, 0, 0, 0, 0, 0), (0, 0, 0, 1, 0, 0))
        for form in (frozen, thawed, mixed):
            lot, given = form((0, 1)), form(rows)
            before = copy.deepcopy((lot, given))
            self.check(table, lot, given)
            self.assertEqual((lot, given), before)

    def test_what_is_returned_is_not_shared(self):
        table = row_table([1, 1, 1, 1])
        rows = ((1, 0, 0, 0, 0, 0), (0, 0, 0, 1, 0, 0))
        placing(table, (0, 1), rows).clear()
        self.check(table, (0, 1), rows)


class OrderOfErrors(unittest.TestCase):
    """BadLot, BadDealing, WrongGround, NotCore."""

    def test_wrong_lots(self):
        table = Table([1, 1, 1, 1], ROW, [((0, 1, 2, 3), 4), ((3, 2, 1, 0), 4)])
        for lot in wrong_lots():
            for form in (tuple, list):
                for call in (is_core, core, placing):
                    for rows in ((), ((1, 0), (0, 1))):
                        self.assertEqual(refused(call, table, form(lot), rows), BAD_LOT, lot)

    def test_wrong_lots_of_a_round_table(self):
        table = Table([1, 1, 1, 1], ROW + [(0, 3)], [((0, 1, 2, 3), 4), ((3, 2, 1, 0), 4)])
        for lot in ((), (0,), (0, 2), (1, 3), (3, 0), (0, 1, 1), (0, 1, 2, 3, 4)):
            for call in (is_core, core, placing):
                self.assertEqual(refused(call, table, lot, ()), BAD_LOT, lot)

    def test_wrong_dealings(self):
        for ties in (ROW, ROW + [(0, 3)]):
            table = Table([1, 1, 1, 1], ties, [((0, 1), 1), ((1, 0), 1)])
            for rows in ((), ((1, 0),), ((1, 0), (0, 1), (0, 0)), ((1,), (0,)), ((0, 1), (1, 0)), ((1, 0), (0, 0)),
                         ((1, 0), (0, 2)), ((2, -1), (0, 1)), ((1, 0, 0), (0, 1, 0))):
                for form in (frozen, thawed):
                    for call in (is_core, core, placing):
                        self.assertEqual(refused(call, table, (0, 1), form(rows)), BAD_DEALING, rows)

    def test_wrong_ground(self):
        ring = [(0, 1), (1, 2), (0, 2)]
        table = Table([1, 1, 1], ring, [((0, 1), 1), ((1, 2), 1), ((2, 0), 1), ((1, 0), 1)])
        for lot, rows, expected in (((0, 1, 2), ((1, 0, 0, 0), (0, 1, 0, 0), (0, 0, 1, 0)), False),
                                    ((0, 1), ((1, 0, 0, 0), (0, 0, 0, 1)), True)):
            self.assertEqual(refused(core, table, lot, rows), NO_TREE)
            self.assertEqual(refused(placing, table, lot, rows), NO_TREE)
            self.assertIs(is_core(table, lot, rows), expected)

    def test_no_core(self):
        table = row_table([1, 1, 1, 1])
        rows = ((1, 0, 0, 0, 0, 0), (0, 1, 0, 0, 0, 0), (0, 0, 0, 0, 1, 0))
        self.assertIs(is_core(table, (0, 1, 2), rows), False)
        for form in (frozen, thawed):
            self.assertEqual(refused(placing, table, (0, 1, 2), form(rows)), NOT_CORE)
        self.assertIsNone(refused(placing, table, *core(table, (0, 1, 2), rows)))
