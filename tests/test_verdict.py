import copy
import itertools
import unittest

from fullhands.dealing.judge import judge, no_lot
from fullhands.dealing.verdict import SafeVerdict, StuckVerdict, Verdict, read_verdict
from fullhands.ground.table import Table
from tests.model import Model
from tests.search import searched
from tests.support import bad_text, frozen, mixed, refused, thawed

ROW = [(0, 1), (1, 2)]
RING = [(0, 1), (1, 2), (0, 2)]
FAR = 10 ** 40


def stuck_holds(table, lot, dealing, run):
    """Point 28 for a stuck verdict, told again."""
    model = Model(table)
    if lot not in model.lots() or dealing not in model.dealings(lot):
        return False
    wants = {(person, model.wanted(kind, person)) for person, row in zip(lot, dealing)
             for kind, many in enumerate(row) if many}
    if any((one, other) in wants and (other, one) in wants for one, other in model.quick):
        return False
    places = model.empty()
    for move in run:
        if move not in model.all_moves() or model.reason(places, move) is not None:
            return False
        places = model.after(places, move)
    held = [(person, kind) for kind, person, _ in model.dishes(places)]
    return all(held.count((person, kind)) == many for person, row in zip(lot, dealing)
               for kind, many in enumerate(row))


def safe_holds(table, ground, shorts):
    """Points 28 and 42 for a safe verdict, told again."""
    model = Model(table)
    lots = [lot for lot, _ in shorts]
    if ground == "round":
        around = len(table.ties) == table.people >= 3 and all(sum(one in tie for tie in table.ties) == 2
                                                              for one in range(table.people))
        if not around or table.quick != table.ties or lots != [tuple(range(table.people))] * 2:
            return False
        return all(Model(only(table, forward)).is_short(lot, people)
                   for forward, (lot, people) in zip((True, False), shorts))
    if ground == "tree" and len(table.ties) != table.people - 1:
        return False
    expected = {"tree": model.lots(slow=True), "web": model.lots()}.get(ground)
    return lots == expected and all(model.is_short(lot, people) for lot, people in shorts)


def only(table, forward):
    """The round table with no dishes of the kinds that go the other way."""
    near = sorted(one + other for one, other in table.ties if 0 in (one, other))
    people = [0, near[0]]
    while len(people) < table.people:
        people += [person for tie in table.ties if people[-1] in tie for person in tie if person not in people]
    steps = set(zip(people, people[1:] + people[:1]))
    kinds = [(way, most if (way[:2] in steps) == forward else 0) for way, most in table.kinds]
    return Table(table.hands, table.ties, kinds, quick=table.quick, shares=table.shares)


def changed_rows(row, strangers):
    """The row with one entry exchanged, left out, doubled or added, and its entries in another order."""
    for at in range(len(row) + 1):
        yield row[:at] + row[at + 1:]
        for entry in strangers:
            yield row[:at] + (entry,) + row[at + 1:]
            yield row[:at] + (entry,) + row[at:]
    yield row[::-1]
    yield row + row


class StuckHolds(unittest.TestCase):
    def check(self, table, lot, dealing, run):
        expected = stuck_holds(table, lot, dealing, run)
        self.assertIs(StuckVerdict(lot, dealing, run).holds(table), expected, (lot, dealing, run))
        return expected

    def table(self):
        kinds = [((0, 1, 2), 3), ((2, 1, 0), 2), ((1, 0), 1), ((1, 2), 1)]
        return Table([1, 2, 1], ROW, kinds, shares=[((0, 2), 3)])

    def tables(self):
        yield self.table()
        yield self.table().with_quick(0, 1)
        yield Table([2, 1, 1], ROW, [((0, 1, 2), 2), ((2, 1, 0), 1), ((1, 0), 1)], quick=[(1, 2)])
        # Person 3 takes no part.
        yield Table([1, 1, 1, 1], ROW + [(2, 3)], [((0, 1), 1), ((1, 0), 1), ((2, 3), 1), ((3, 2, 1), 1)])
        yield Table([1, 1, 1], RING, [((0, 1), 1), ((1, 2), 1), ((2, 0), 1), ((1, 0), 1)])

    def verdicts(self):
        """All runs of at most 5 moves that bring about a dealing of a lot, at most a few for each dealing."""
        for table in self.tables():
            model = Model(table)
            runs, line = {}, [((), model.empty())]
            while line:
                run, places = line.pop(0)
                runs.setdefault(places, []).append(run)
                if len(run) < 5 and len(runs[places]) < 3:
                    line.extend([(run + (move,), later) for move, later in model.steps(places, True)])
            for lot in model.lots():
                for dealing in model.dealings(lot):
                    for places, some in runs.items():
                        if all(self.row(model, places, person) == row for person, row in zip(lot, dealing)):
                            for run in some:
                                yield table, lot, dealing, run

    @staticmethod
    def row(model, places, person):
        kinds = [kind for kind, holder, _ in model.dishes(places) if holder == person]
        return tuple(kinds.count(kind) for kind in range(len(model.kinds)))

    def test_right_ones(self):
        """Other people may hold dishes, dishes may have been put down, and only quick ties within the lot count."""
        found = {}
        for table, lot, dealing, run in self.verdicts():
            holds = self.check(table, lot, dealing, run)
            held = sum(row != () and sum(row) for row in dealing)
            key = (holds, bool(table.quick), [move[0] for move in run].count("enter") > held)
            found[key] = found.get(key, 0) + 1
        self.assertLessEqual({(True, False, False), (True, False, True), (True, True, False), (False, True, False)},
                             set(found))

    def test_changed_lots_and_dealings(self):
        strangers = (-1, 0, 1, 2, 3, FAR, -FAR)
        found = set()
        for table, lot, dealing, run in itertools.islice(self.verdicts(), 0, None, 9):
            for changed in changed_rows(lot, strangers):
                found.add(self.check(table, changed, dealing, run))
                self.check(table, changed, dealing[:len(changed)], run)
                self.check(table, changed, (dealing + dealing)[:len(changed)], run)
            for changed in changed_rows(dealing, dealing + ((), (0,) * len(table.kinds))):
                found.add(self.check(table, lot, changed, run))
            for at, row in enumerate(dealing):
                for changed in changed_rows(row, strangers):
                    found.add(self.check(table, lot, dealing[:at] + (changed,) + dealing[at + 1:], run))
        self.assertEqual(found, {True, False})

    def test_changed_runs(self):
        strange = [("enter", -1), ("enter", 9), ("pass", 0, -1), ("pass", 0, FAR), ("pass", FAR, 0),
                   ("swap", 0, 1, 1, 0), ("swap", 0, -1, 1, 0), ("swap", 9, 0, 1, 1), ("swap", 0, 0, -FAR, FAR)]
        found = set()
        for table, lot, dealing, run in itertools.islice(self.verdicts(), 0, None, 17):
            moves = [move for move in Model(table).all_moves() if move[0] != "swap" or move[2] + 1 == move[4]]
            for changed in changed_rows(run, moves[::2] + strange):
                found.add(self.check(table, lot, dealing, changed))
            for order in itertools.permutations(run) if len(run) < 5 else ():
                found.add(self.check(table, lot, dealing, order))
        self.assertEqual(found, {True, False})

    def test_a_move_too_many(self):
        table = Table([1, 1, 1, 1], ROW + [(2, 3)], [((0, 1), 2), ((1, 0), 1), ((2, 3), 2), ((3, 2, 1), 1)])
        run = (("enter", 0), ("enter", 1))
        dealing = ((1, 0, 0, 0), (0, 1, 0, 0))
        for more, expected in (((), True), ((("enter", 2),), True), ((("enter", 2), ("pass", 2, 2)), True),
                               ((("enter", 0),), False), ((("enter", 3), ("pass", 3, 3)), True),
                               ((("pass", 0, 0),), False)):
            self.assertIs(StuckVerdict((0, 1), dealing, run + more).holds(table), expected, more)
            self.assertIs(self.check(table, (0, 1), dealing, run + more), expected)
        before = (("enter", 0), ("pass", 0, 0))
        self.assertIs(StuckVerdict((0, 1), dealing, before + run).holds(table), True)
        # The dish of person 0 is put down again, or never comes to the other one.
        self.assertIs(StuckVerdict((0, 1), dealing, (("enter", 0), ("pass", 0, 0), ("enter", 1))).holds(table), False)
        self.assertIs(StuckVerdict((0, 1), dealing, (("enter", 0),)).holds(table), False)
        self.assertIs(StuckVerdict((0, 1), dealing, ()).holds(table), False)

    def test_more_dishes_than_dealt(self):
        """Each person holds exactly the dishes dealt, and the bounds hold for the run, too."""
        table = Table([2, 2], [(0, 1)], [((0, 1), 4), ((1, 0), 2)])
        run = [("enter", 0)] * 2 + [("enter", 1)] * 2
        self.assertIs(StuckVerdict((0, 1), ((2, 0), (0, 2)), run).holds(table), True)
        self.assertIs(StuckVerdict((0, 1), ((1, 0), (0, 2)), run).holds(table), False)
        self.assertIs(StuckVerdict((0, 1), ((2, 0), (0, 2)), run + [("enter", 0)]).holds(table), False)

    def test_swaps_lead_there_too(self):
        kinds = [((2, 1, 0), 1), ((0, 1), 1), ((1, 2), 1), ((1, 0), 1)]
        table = Table([1, 1, 1], ROW, kinds, quick=[(1, 2)])
        # Person 1 has a dish that wants 2, who has one that wants 1; behind the swap person 1 has one that wants 0.
        run = [("enter", 2), ("enter", 0), ("swap", 2, 1, 0, 2), ("enter", 1)]
        self.assertIs(StuckVerdict((0, 1), ((0, 1, 0, 0), (1, 0, 0, 0)), run).holds(table), True)
        self.assertIs(StuckVerdict((0, 1), ((0, 1, 0, 0), (0, 0, 0, 1)), run).holds(table), False)
        self.assertIs(StuckVerdict((0, 1), ((0, 1, 0, 0), (1, 0, 0, 0)), run).holds(table.with_quick(0, 1)), False)

    def test_quick_ties(self):
        """A quick tie in the lot does not matter as long as no two dishes want each other over it."""
        ring = Table([1, 1, 1], RING, [((0, 1), 1), ((1, 2), 1), ((2, 0), 1)], quick=RING)
        run = [("enter", 0), ("enter", 1), ("enter", 2)]
        self.assertIs(StuckVerdict((0, 1, 2), ((1, 0, 0), (0, 1, 0), (0, 0, 1)), run).holds(ring), True)
        pair = Table([1, 1], [(0, 1)], [((0, 1), 1), ((1, 0), 1)], quick=[(0, 1)])
        self.assertIs(StuckVerdict((0, 1), ((1, 0), (0, 1)), run[:2]).holds(pair), False)
        self.assertIs(StuckVerdict((0, 1), ((1, 0), (0, 1)), run[:2]).holds(pair.without_quick(0, 1)), True)

    def test_on_other_tables(self):
        tables = [Table([1], [], []), Table([1, 1], [(0, 1)], []), Table([1] * 6, [(0, at) for at in range(1, 6)], []),
                  Table([1, 1], [(0, 1)], [((0, 1), 1)] * 6), Table([4, 4, 4], RING, [((0, 1), 24)] * 3, quick=RING)]
        for table, lot, dealing, run in itertools.islice(self.verdicts(), 0, None, 40):
            for other in tables:
                self.check(other, lot, dealing, run)
        for numbers in itertools.product((-FAR, -1, 0, 1, FAR), repeat=3):
            for table in tables + [self.table()]:
                for lot, dealing in ((numbers, [numbers] * 3), (numbers[:2], [numbers] * 2), ((0, 1), [numbers] * 2),
                                     ((), []), ((0, 1), [(), ()]), ((0, 1), [])):
                    verdict = StuckVerdict(lot, dealing, [("enter", 0), ("pass",) + numbers[:2]])
                    self.assertIs(verdict.holds(table), False)


class SafeHolds(unittest.TestCase):
    def check(self, table, ground, shorts):
        expected = safe_holds(table, ground, shorts)
        self.assertIs(SafeVerdict(ground, shorts).holds(table), expected, (table.hands, ground, shorts))
        return expected

    def verdicts(self):
        for table in [Table([1], [], []), Table([2, 1], [(0, 1)], [((0, 1), 1), ((1, 0), 1)]),
                      Table([1, 1, 1], ROW, [((0, 1, 2), 1), ((2, 1), 0)], quick=[(1, 2)]),
                      Table([1, 2, 2], ROW, [((0, 1, 2), 1), ((2, 1), 1)]),
                      Table([2, 2, 2, 2], ROW + [(1, 3)], [((0, 1, 2), 3), ((2, 1, 3), 1)], shares=[((0, 1), 1)])]:
            yield table, "tree", judge(table).shorts
            yield table, "web", no_lot(table).shorts
        for table in [Table([1, 1, 1], RING, [((0, 1), 1), ((1, 2), 1)]),
                      Table([1, 1, 1], RING, [((0, 1), 1), ((1, 2), 1)], quick=RING)]:
            yield table, "web", no_lot(table).shorts

    def test_right_ones(self):
        for table, ground, shorts in self.verdicts():
            self.assertTrue(self.check(table, ground, shorts))

    def test_other_grounds(self):
        for table, _, shorts in self.verdicts():
            for ground in ("tree", "web", "round", "", "Tree", "tree ", " tree", "trees", "stuck", "safe tree"):
                self.check(table, ground, shorts)

    def test_every_set(self):
        """All sets of people of a lot, in all orders, and with people of elsewhere."""
        found = set()
        for table, ground, shorts in self.verdicts():
            for at, (lot, _) in enumerate(shorts):
                for many in range(4):
                    for people in itertools.product((-1,) + lot + (table.people, FAR), repeat=many):
                        changed = shorts[:at] + ((lot, people),) + shorts[at + 1:]
                        found.add((self.check(table, ground, changed), many))
        self.assertLessEqual({(False, 0), (True, 1), (False, 1), (True, 2), (False, 2), (True, 3), (False, 3)}, found)

    def test_changed_lots(self):
        for table, ground, shorts in self.verdicts():
            pairs = [(lot, lot) for lot in Model(table).lots()]
            pairs += [((), ()), ((0,), (0,)), ((-1, 0), (0,)), ((0, FAR), (0,))]
            for changed in changed_rows(shorts, shorts + tuple(pairs)):
                self.check(table, ground, changed)
            for at, (lot, people) in enumerate(shorts):
                for other in changed_rows(lot, (-1, 0, 1, 2, FAR)):
                    self.check(table, ground, shorts[:at] + ((other, people),) + shorts[at + 1:])
            for order in itertools.permutations(shorts) if len(shorts) < 4 else ():
                self.check(table, ground, order)

    def test_on_other_tables(self):
        tables = [table for table, _, _ in self.verdicts()]
        tables.append(Table([1, 1, 1, 1], [(0, 1), (1, 2), (2, 3), (0, 3)], []))
        for _, ground, shorts in self.verdicts():
            for table in tables:
                self.check(table, ground, shorts)

    def test_slow_lots_or_all_lots(self):
        """For a tree the lots with quick ties are left out, for a web they are not."""
        table = Table([1, 1, 1], ROW, [((0, 1, 2), 1), ((2, 1), 0)], quick=[(1, 2)])
        slow, every = (((0, 1), (1,)),), (((0, 1), (1,)), ((1, 2), (2,)), ((0, 1, 2), (2,)))
        self.assertIs(SafeVerdict("tree", slow).holds(table), True)
        self.assertIs(SafeVerdict("tree", every).holds(table), False)
        self.assertIs(SafeVerdict("web", every).holds(table), True)
        self.assertIs(SafeVerdict("web", slow).holds(table), False)

    def test_ground_tree_needs_a_tree(self):
        table = Table([1, 1, 1], RING, [((0, 1), 1)])
        shorts = no_lot(table).shorts
        self.assertIs(SafeVerdict("web", shorts).holds(table), True)
        self.assertIs(SafeVerdict("tree", shorts).holds(table), False)


class RoundHolds(unittest.TestCase):
    def check(self, expected, table, first, second, lot=(0, 1, 2)):
        shorts = [(lot, first), (lot, second)]
        self.assertIs(SafeVerdict("round", shorts).holds(table), expected, (first, second))
        self.assertIs(safe_holds(table, "round", tuple(shorts)), expected)

    def table(self, hands=(1, 1, 1), **more):
        """Forward, nothing can be dealt to person 2; backward, persons 1 and 2 can be dealt one dish together."""
        kinds = [((0, 1), 2), ((1, 2), 2), ((2, 1, 0), 1), ((2, 1), 0), ((0, 2), 1)]
        return Table(hands, RING, kinds, **{"quick": RING, **more})

    def test_directions(self):
        for second in ((1, 2), (0, 1, 2)):
            self.check(True, self.table(), (2,), second)
        for first, second in (((0,), (1, 2)), ((2,), (0,)), ((2,), (0, 2)), ((1, 2), (2,)), ((0, 1), (1, 2)),
                              ((1, 2), (1, 2)), ((0, 2), (1, 2))):
            self.check(False, self.table(), first, second)

    def test_every_pair_of_sets(self):
        found = set()
        sets = [some for many in range(4) for some in itertools.product((0, 1, 2), repeat=many)]
        for table in (self.table(), self.table((2, 1, 1)), self.table(shares=[((0, 1), 1), ((2, 4), 1)]),
                      self.table((1, 2, 1), shares=[((0, 1, 2), 2)])):
            for first, second in itertools.product(sets + [(2, 3), (-1, 2), (2, FAR)], repeat=2):
                shorts = (((0, 1, 2), first), ((0, 1, 2), second))
                expected = safe_holds(table, "round", shorts)
                found.add(expected)
                self.assertIs(SafeVerdict("round", shorts).holds(table), expected, (first, second))
        self.assertEqual(found, {True, False})

    def test_other_grounds(self):
        shorts = [((0, 1, 2), (2,)), ((0, 1, 2), (1, 2))]
        for ground in ("Round", "", "round ", "rounds", "web", "tree", "ring"):
            self.assertIs(SafeVerdict(ground, shorts).holds(self.table()), False)

    def test_pairs(self):
        pair = ((0, 1, 2), (2,))
        other = ((0, 1, 2), (1, 2))
        self.assertIs(SafeVerdict("round", [pair, other]).holds(self.table()), True)
        for shorts in ([], [pair], [pair, other, other], [pair, pair, other], [other, pair], [((0, 1), (1,)), other],
                       [pair, ((1, 2), (1, 2))], [((2, 1, 0), (2,)), other], [pair, ((0, 1, 2, 3), (1, 2))],
                       [((), (2,)), other], [pair, ((0, 1, 1, 2), (1, 2))]):
            self.assertIs(SafeVerdict("round", shorts).holds(self.table()), False, shorts)

    def test_other_tables(self):
        self.check(False, self.table(quick=RING[:2]), (2,), (1, 2))
        self.check(False, self.table(quick=[]), (2,), (1, 2))
        self.check(False, Table([1, 1, 1], ROW, [], quick=ROW), (0,), (0,))
        self.check(False, Table([1, 1], [(0, 1)], [], quick=[(0, 1)]), (0,), (0,), lot=(0, 1))
        self.check(False, Table([1], [], []), (0,), (0,), lot=(0,))
        four = RING + [(0, 3)]
        self.check(False, Table([1] * 4, four, [], quick=four), (0,), (0,), lot=(0, 1, 2, 3))
        self.check(True, Table([1, 1, 1], RING, [], quick=RING), (0,), (0,))

    def test_the_round_goes_on_with_the_lower_neighbour(self):
        """The round is 0, 2, 1, 3, or with other numbers 0, 1, 3, 2."""
        for order in ((0, 2, 1, 3), (0, 1, 3, 2)):
            ties = list(zip(order, order[1:] + order[:1]))
            kinds = [((order[at], order[(at + 1) % 4]), 1) for at in range(3)] + [(order[::-1], 1)]
            table = Table([1] * 4, ties, kinds, quick=ties)
            everybody = (0, 1, 2, 3)
            last = (order[3],)
            for first, second, expected in ((last, everybody, True), (everybody, everybody, True),
                                            (everybody, last, False), ((order[0],), everybody, False)):
                self.check(expected, table, first, second, lot=everybody)


class Values(unittest.TestCase):
    def test_classes(self):
        for verdict, stuck in ((StuckVerdict((0, 1), ((1, 0), (0, 1)), ()), True), (SafeVerdict("tree", ()), False)):
            self.assertIsInstance(verdict, Verdict)
            self.assertIs(verdict.STUCK, stuck)
            self.assertIs(type(verdict).STUCK, stuck)
            self.assertEqual(type(verdict).__bases__, (Verdict,))

    def test_fields_are_tuples(self):
        lot, dealing, run = (0, 1), ((1, 0), (0, 1)), (("enter", 0), ("enter", 1))
        for form in (frozen, thawed, mixed, lambda rows: mixed(rows, 1)):
            given = (form(lot), form(dealing), list(run))
            before = copy.deepcopy(given)
            verdict = StuckVerdict(*given)
            self.assertEqual((verdict.lot, verdict.dealing, verdict.run), (lot, dealing, run))
            self.assertEqual(given, before)
        shorts = (((0, 1), (1,)), ((1, 2), (1, 2)))
        for form in (frozen, thawed, mixed, lambda rows: mixed(rows, 1)):
            given = form(shorts)
            before = copy.deepcopy(given)
            verdict = SafeVerdict("web", given)
            self.assertEqual((verdict.ground, verdict.shorts), ("web", shorts))
            self.assertEqual(given, before)

    def test_do_not_change_with_what_they_were_built_from(self):
        lot, dealing, run, shorts = [0, 1], [[1, 0], [0, 1]], [("enter", 0)], [[[0, 1], [1]]]
        stuck, safe = StuckVerdict(lot, dealing, run), SafeVerdict("tree", shorts)
        lot.clear(), dealing[0].clear(), dealing.pop(), run.clear(), shorts[0][1].clear(), shorts[0][0].pop()
        self.assertEqual((stuck.lot, stuck.dealing, stuck.run), ((0, 1), ((1, 0), (0, 1)), (("enter", 0),)))
        self.assertEqual(safe.shorts, (((0, 1), (1,)),))

    def test_holds_with_lists(self):
        for table, _ in searched()[:60]:
            verdict = judge(table)
            if verdict.STUCK:
                lists = StuckVerdict(list(verdict.lot), thawed(verdict.dealing), list(verdict.run))
            else:
                lists = SafeVerdict("tree", thawed(verdict.shorts))
            self.assertIs(lists.holds(table), True)


STUCK = "stuck\nlot 0 1 12\ndeal 0 1 0\ndeal 1 0 99\ndeal 12 3 0\nenter 0\npass 1 2\nswap 0 1 2 3"
SAFE = "safe web\nshort 0 1 by 1\nshort 0 1 2 by 0 12\nshort 3 by 3"


class Text(unittest.TestCase):
    def test_stuck(self):
        run = [("enter", 0), ("pass", 1, 2), ("swap", 0, 1, 2, 3)]
        verdict = StuckVerdict([0, 1, 12], [[1, 0], [0, 99], [3, 0]], run)
        self.assertEqual(verdict.text(), STUCK)
        found = read_verdict(STUCK)
        self.assertIsInstance(found, StuckVerdict)
        self.assertEqual((found.lot, found.dealing, found.run),
                         ((0, 1, 12), ((1, 0), (0, 99), (3, 0)), tuple(run)))

    def test_safe(self):
        shorts = (((0, 1), (1,)), ((0, 1, 2), (0, 12)), ((3,), (3,)))
        for ground in ("tree", "web", "round"):
            text = SAFE.replace("web", ground)
            self.assertEqual(SafeVerdict(ground, thawed(shorts)).text(), text)
            found = read_verdict(text)
            self.assertIsInstance(found, SafeVerdict)
            self.assertEqual((found.ground, found.shorts), (ground, shorts))

    def test_without_pairs_or_moves(self):
        for ground in ("tree", "web", "round"):
            self.assertEqual(SafeVerdict(ground, []).text(), "safe " + ground)
            self.assertEqual(read_verdict("safe " + ground).shorts, ())
        text = "stuck\nlot 4\ndeal 4 7"
        self.assertEqual(StuckVerdict((4,), ((7,),), ()).text(), text)
        found = read_verdict(text)
        self.assertEqual((found.lot, found.dealing, found.run), ((4,), ((7,),), ()))

    def test_verdicts_of_small_tables(self):
        for table, _ in searched():
            for verdict in [judge(table), no_lot(table)]:
                if verdict is not None:
                    found = read_verdict(verdict.text())
                    self.assertEqual(vars(found), vars(verdict))
                    self.assertEqual(found.text(), verdict.text())
                    self.assertIs(found.STUCK, verdict.STUCK)
                    self.assertIs(found.holds(table), True)

    def test_whether_it_holds_plays_no_part(self):
        found = read_verdict("stuck\nlot 5 5 0\ndeal 5 1\ndeal 5 2\ndeal 0 3\nswap 9 9 9 9")
        self.assertEqual((found.lot, found.dealing), ((5, 5, 0), ((1,), (2,), (3,))))
        self.assertEqual(read_verdict("safe tree\nshort 9 1 by 4 4").shorts, (((9, 1), (4, 4)),))

    def test_first_line(self):
        for line in ("", " ", "stuck ", " stuck", "Stuck", "stuck 0", "safe", "safe ", "safe  tree", " safe tree",
                     "safe tree ", "safe Tree", "safe bush", "safe tree web", "tree", "lot 0 1", "short 0 1 by 0",
                     "enter 0", "safe 0", "safe stuck"):
            self.assertEqual(refused(read_verdict, line), bad_text(1), line)
            self.assertEqual(refused(read_verdict, line + "\nlot 0 1\ndeal 0 1\ndeal 1 1"), bad_text(1), line)

    def test_short_lines(self):
        for line in ("", "short", "short ", "short 0", "short by", "short 0 by", "short by 0", "short 0 1 by ",
                     "short  0 by 0", "short 0  by 0", "short 0 by  0", "short 0 by 0 ", " short 0 by 0",
                     "short 0 by 0 by 0", "short 0 by by 0", "short 0 1", "short 00 by 0", "short 0 by 00",
                     "short 100 by 0", "short 0 by 100", "short -1 by 0", "short 0 by -1", "short x by 0",
                     "short 0 to 0", "Short 0 by 0", "short 0 By 0", "by 0", "enter 0", "lot 0 1", "deal 0 1",
                     "safe web"):
            self.assertEqual(refused(read_verdict, SAFE + "\n" + line), bad_text(5), line)
            self.assertEqual(refused(read_verdict, "safe tree\n" + line + "\nnonsense"), bad_text(2), line)
        self.assertEqual(refused(read_verdict, SAFE + "\n"), bad_text(5))
        self.assertEqual(refused(read_verdict, "safe tree\n"), bad_text(2))

    def test_lot_line(self):
        for line in ("", "lot", "lot ", "lot  0", "lot 0 ", "lot 0  1", " lot 0 1", "lot 00", "lot 100", "lot -1",
                     "lot x", "lot 0 1 by 0", "Lot 0", "deal 0 1", "enter 0", "0 1", "stuck"):
            self.assertEqual(refused(read_verdict, "stuck\n" + line), bad_text(2), line)
            self.assertEqual(refused(read_verdict, "stuck\n" + line + "\ndeal 0 1\nnonsense"), bad_text(2), line)

    def test_deal_lines(self):
        lines = STUCK.split("\n")
        for at, wrong in ((2, "deal 1 1 0"), (2, "deal 12 1 0"), (3, "deal 0 0 99"), (3, "deal 12 3 0"),
                          (4, "deal 1 3 0"), (4, "deal 2 3 0")):
            self.assertEqual(refused(read_verdict, "\n".join(lines[:at] + [wrong] + lines[at + 1:])), bad_text(at + 1))
        for at, person in ((2, 0), (3, 1), (4, 12)):
            for wrong in ("", "deal", "deal ", f"deal {person}", f"deal {person} ", f"deal  {person} 1 0",
                          f"deal {person}  1 0", f"deal {person} 1  0", f"deal {person} 1 0 ", f" deal {person} 1 0",
                          f"deal {person} 1 00", f"deal {person} 01 0", f"deal {person} 1 100", f"deal {person} -1 0",
                          f"deal {person} x 0", f"Deal {person} 1 0", "enter 0", "lot 0 1 12", "deal x 1 0",
                          f"deal 0{person} 1 0", "short 0 by 0"):
                text = "\n".join(lines[:at] + [wrong] + lines[at + 1:])
                self.assertEqual(refused(read_verdict, text), bad_text(at + 1), wrong)
                self.assertEqual(refused(read_verdict, "\n".join(lines[:at] + [wrong, "x"])), bad_text(at + 1), wrong)

    def test_as_many_entries_as_the_first_deal_line(self):
        lines = STUCK.split("\n")
        for at, wrong in ((3, "deal 1 0"), (3, "deal 1 0 99 0"), (4, "deal 12 3"), (4, "deal 12 3 0 0")):
            self.assertEqual(refused(read_verdict, "\n".join(lines[:at] + [wrong] + lines[at + 1:])), bad_text(at + 1))
        self.assertEqual(refused(read_verdict, "\n".join(lines[:2] + ["deal 0 1 0 0"] + lines[3:])), bad_text(4))
        self.assertEqual(refused(read_verdict, "\n".join(lines[:2] + ["deal 0 1"] + lines[3:])), bad_text(4))

    def test_as_many_deal_lines_as_people(self):
        self.assertEqual(refused(read_verdict, "stuck\nlot 0 1\ndeal 0 1\nenter 0"), bad_text(4))
        self.assertEqual(refused(read_verdict, "stuck\nlot 0 1\ndeal 0 1\ndeal 1 1\ndeal 2 1"), bad_text(5))
        self.assertEqual(refused(read_verdict, "stuck\nlot 0 1\ndeal 0 1\ndeal 1 1\ndeal 1 1"), bad_text(5))

    def test_texts_that_end_too_early(self):
        lines = STUCK.split("\n")
        for many in range(1, 5):
            self.assertEqual(refused(read_verdict, "\n".join(lines[:many])), bad_text(many + 1), many)
            self.assertEqual(refused(read_verdict, "\n".join(lines[:many]) + "\n"), bad_text(many + 1), many)
        for many in range(5, 9):
            self.assertIsNone(refused(read_verdict, "\n".join(lines[:many])))
            self.assertEqual(refused(read_verdict, "\n".join(lines[:many]) + "\n"), bad_text(many + 1), many)

    def test_run_lines(self):
        for line in ("", "enter", "enter 00", "enter 0 ", "pass 0", "swap 0 1 2", "swap 0 1 2 3 4", "settle",
                     "deal 0 1 0", "lot 0", "enter 100", " enter 0", "pass  0 0"):
            self.assertEqual(refused(read_verdict, STUCK + "\n" + line), bad_text(9), line)
            text = "stuck\nlot 3\ndeal 3 1\n" + line + "\nenter 0"
            self.assertEqual(refused(read_verdict, text), bad_text(4), line)

    def test_empty_text(self):
        self.assertEqual(refused(read_verdict, ""), bad_text(1))
        self.assertEqual(refused(read_verdict, "\nstuck"), bad_text(1))
