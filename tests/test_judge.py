import random
import unittest

from fullhands.dealing.judge import judge, no_lot
from fullhands.dealing.verdict import SafeVerdict, StuckVerdict
from fullhands.ground.table import Table
from fullhands.moves.run import trace
from fullhands.moves.standing import Standing
from fullhands.moves.step import after, possible
from tests.model import Model, dealing_tables
from tests.search import Search, random_tree, searched
from tests.support import fields, frozen, refused

NO_TREE = ("WrongGround", ("needed", "tree"))
RING = [(0, 1), (1, 2), (0, 2)]


def wants_exchange(model, lot, dealing):
    """True if two people with a quick tie are dealt dishes that want each other."""
    wants = {(person, model.wanted(kind, person)) for person, row in zip(lot, dealing)
             for kind, many in enumerate(row) if many}
    return any((one, other) in wants and (other, one) in wants for one, other in model.quick)


class Checks(unittest.TestCase):
    def check_stuck(self, table, verdict):
        """The verdict is right by the words of point 28, and its run puts no dish down."""
        model = Model(table)
        self.assertIsInstance(verdict, StuckVerdict)
        self.assertIs(verdict.STUCK, True)
        self.assertIn(verdict.lot, model.lots(slow=True))
        self.assertIn(verdict.dealing, model.dealings(verdict.lot))
        self.assertFalse(wants_exchange(model, verdict.lot, verdict.dealing))
        self.assertEqual((verdict.dealing, verdict.run), (frozen(verdict.dealing), frozen(verdict.run)))
        before, totals = Standing.empty(table), [0]
        for standing in trace(before, verdict.run):
            totals.append(standing.total)
        self.assertEqual(totals, sorted(totals))
        self.assertEqual(totals[-1], [move[0] for move in verdict.run].count("enter"))
        for person, row in zip(verdict.lot, verdict.dealing):
            self.assertEqual(tuple(standing.dishes(kind, person) for kind in range(len(table.kinds))), row)
        self.assertTrue(model.is_knot(standing.places, verdict.lot))
        self.assertIs(verdict.holds(table), True)

    def check_safe(self, table, verdict, ground):
        model = Model(table)
        self.assertIsInstance(verdict, SafeVerdict)
        self.assertIs(verdict.STUCK, False)
        self.assertEqual(verdict.ground, ground)
        self.assertEqual([lot for lot, _ in verdict.shorts], model.lots(slow=ground == "tree"))
        self.assertEqual(verdict.shorts, frozen(verdict.shorts))
        for lot, people in verdict.shorts:
            self.assertTrue(model.is_short(lot, people), (table.hands, lot, people))
        self.assertIs(verdict.holds(table), True)


class Judge(Checks):
    def test_against_a_search_through_all_standings(self):
        found = set()
        for table, search in searched():
            verdict = judge(table)
            stuck = bool(search.doomed())
            found.add((stuck, bool(table.quick), bool(table.shares)))
            self.assertIs(verdict.STUCK, stuck, fields(table))
            if stuck:
                self.check_stuck(table, verdict)
                self.assertIn(verdict.lot, [lot for lot in search.model.lots(slow=True) if search.model.dealings(lot)])
            else:
                self.check_safe(table, verdict, "tree")
        self.assertEqual(len(found), 8)

    def test_great_trees(self):
        rule = random.Random(27)
        found = set()
        for _ in range(60):
            table = random_tree(rule, people=(5, 6), hands=(1, 4), kinds=(4, 6), most=24, quick=0.2)
            model = Model(table)
            verdict = judge(table)
            found.add(verdict.STUCK)
            if verdict.STUCK:
                self.check_stuck(table, verdict)
            else:
                self.assertIs(verdict.holds(table), True)
                self.assertEqual([lot for lot, _ in verdict.shorts], model.lots(slow=True))
        self.assertEqual(found, {True, False})

    def test_what_is_dealt_is_cut_down(self):
        """The whole can be dealt only in ways in which the first two people are stuck by themselves."""
        kinds = [((0, 1), 2), ((1, 0), 1), ((2, 1), 1)]
        table = Table([2, 1, 1], [(0, 1), (1, 2)], kinds)
        self.check_stuck(table, judge(table))
        self.assertEqual(judge(table).lot, (0, 1))

    def test_without_a_slow_lot(self):
        for table in (Table([3], [], []), Table([1, 1], [(0, 1)], [((0, 1), 1), ((1, 0), 1)], quick=[(0, 1)])):
            self.check_safe(table, judge(table), "tree")
            self.assertEqual(judge(table).shorts, ())

    def test_wrong_ground(self):
        kinds = [((0, 1), 1), ((1, 0), 1)]
        for ties in (RING, RING + [(0, 3), (1, 3)]):
            hands = [1] * (max(map(max, ties)) + 1)
            self.assertEqual(refused(judge, Table(hands, ties, kinds)), NO_TREE)
            self.assertEqual(refused(judge, Table(hands, ties, kinds, quick=ties)), NO_TREE)
            self.assertEqual(refused(judge, Table(hands, ties, [])), NO_TREE)

    def test_the_table_stays_as_it_is(self):
        for table, _ in searched()[:20]:
            before = fields(table)
            judge(table)
            no_lot(table)
            self.assertEqual(fields(table), before)

    def test_example(self):
        table = Table([1, 1], [(0, 1)], [((0, 1), 1), ((1, 0), 1)])
        self.assertEqual((judge(table).STUCK, judge(table).lot, judge(table.with_hands(1, 2)).STUCK),
                         (True, (0, 1), False))


class NoLot(Checks):
    def test_trees_round_tables_and_webs(self):
        found = set()
        tables = dealing_tables() + [table for table, _ in searched()]
        for hands in ([1, 1, 1], [2, 2, 1]):
            for most in (0, 1, 2):
                kinds = [((0, 1, 2), most), ((2, 0), 1), ((1, 0), most)]
                tables += [Table(hands, RING, kinds), Table(hands, RING, kinds, quick=RING),
                           Table(hands + [1], RING + [(2, 3)], kinds + [((3, 2, 0), 1)], shares=[((0, 1), 1)])]
        for table in tables:
            model = Model(table)
            verdict = no_lot(table)
            dealt = any(model.dealings(lot) for lot in model.lots())
            found.add((dealt, table.is_tree(), table.is_round()))
            if dealt:
                self.assertIsNone(verdict, fields(table))
            else:
                self.check_safe(table, verdict, "web")
        self.assertLessEqual({(stuck, *form) for stuck in (True, False)
                              for form in ((True, False), (False, True), (False, False))}, found)

    def test_quick_ties_play_no_part(self):
        table = Table([1, 1], [(0, 1)], [((0, 1), 1), ((1, 0), 1)], quick=[(0, 1)])
        self.assertIsNone(no_lot(table))
        self.check_safe(table.with_most(0, 0), no_lot(table.with_most(0, 0)), "web")

    def test_only_the_last_lot_can_be_dealt(self):
        kinds = [((0, 1), 1), ((1, 2), 1), ((2, 0), 1)]
        table = Table([1, 1, 1], RING, kinds)
        self.assertIsNone(no_lot(table))
        self.assertEqual(len(no_lot(table.with_most(2, 0)).shorts), 4)

    def test_one_person_alone(self):
        verdict = no_lot(Table([2], [], []))
        self.assertEqual((verdict.ground, verdict.shorts), ("web", ()))


class PassingOn(unittest.TestCase):
    """In a safe tree, passes and swaps in any order lead from every standing to the empty one."""

    def check(self, model, every):
        """Since each pass or swap brings dishes nearer to their ends, only the last standing has none left."""
        moves = Search.moves_of(model)
        for places in every:
            left = [move for move in moves if move[0] != "enter" and model.reason(places, move) is None]
            self.assertEqual(not left, places == model.empty())

    def test_every_standing_of_safe_trees(self):
        unreached = 0
        for table, search in searched():
            if not judge(table).STUCK:
                every = search.model.all_places()
                unreached += len(every) - len(search.links)
                self.check(search.model, every[::len(every) // 300 + 1] + every[-50:])
        self.assertGreater(unreached, 0)

    def test_webs_without_a_lot_that_can_be_dealt(self):
        for table in dealing_tables():
            if no_lot(table) is not None:
                self.check(Model(table), Model(table).all_places())

    def test_the_moves_of_the_program(self):
        rule = random.Random(5)
        for table, search in searched():
            if not judge(table).STUCK:
                standing = Standing(table, search.model.all_places()[-1])
                moves = list(possible(standing, enters=False))
                while moves:
                    standing = after(standing, rule.choice(moves))
                    moves = list(possible(standing, enters=False))
                self.assertEqual(standing.total, 0)

    def test_stuck_trees_have_a_standing_that_never_becomes_empty(self):
        for table, search in searched():
            if judge(table).STUCK:
                places = max(search.doomed())
                self.assertNotIn(search.empty, search.model.led_to(places))
