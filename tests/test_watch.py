import copy
import random
import unittest

from fullhands.dealing.judge import judge
from fullhands.ground.table import Table
from fullhands.moves.run import play
from fullhands.moves.standing import Standing
from fullhands.moves.step import after
from fullhands.seen.watch import Watch
from tests.model import Model, small_tables
from tests.search import random_tree
from tests.support import no_such, refused, thawed
from tests.test_hosts_judge import NO_QUICK
from tests.test_judge import RING
from tests.test_program import too_great
from tests.webs import random_web

FAR = 10 ** 40
IMPOSSIBLE = ("Impossible",)
ROW = [(0, 1), (1, 2)]


def tables():
    """Trees and other webs without quick ties, of at most 5 people."""
    rule = random.Random(50)
    yield from [table for table in small_tables() if not table.quick]
    for _ in range(20):
        yield random_tree(rule, people=(2, 4), kinds=(1, 4), quick=0, shares=0.3)
    for _ in range(20):
        yield random_web(rule, people=(2, 5), hands=(1, 2), kinds=(1, 4), most=3, quick=0)


class Seen:
    """Points 50 to 53 told again: all runs, each as the row of the places at the ends of its moments."""

    def __init__(self, table):
        self.model = Model(table)
        self.unseen_from = {}
        self.rows = {(places,) for places in self.closure(self.model.empty())}

    def closure(self, places):
        """All places to which unseen passes lead."""
        if places not in self.unseen_from:
            found = {places}
            for kind, (way, _) in enumerate(self.model.kinds):
                for person in way[:-2]:
                    if self.model.reason(places, ("pass", kind, person)) is None:
                        found |= self.closure(self.model.after(places, ("pass", kind, person)))
            self.unseen_from[places] = found
        return self.unseen_from[places]

    def move(self, event):
        word, kind = event
        return event if word == "enter" else ("pass", kind, self.model.kinds[kind][0][-2])

    def with_event(self, event):
        """The rows that are left when the event is told."""
        move = self.move(event)
        return {row + (later,) for row in self.rows if self.model.reason(row[-1], move) is None
                for later in self.closure(self.model.after(row[-1], move))}

    def with_fact(self, moment, claim):
        return {row for row in self.rows if self.holds(row[moment], claim)}

    def holds(self, places, claim):
        """Point 52, word by word."""
        model = self.model
        if claim[0] in ("full", "free"):
            return (model.held(places, claim[1]) == model.hands[claim[1]]) == (claim[0] == "full")
        if claim[0] == "count":
            return model.held(places, claim[1]) == claim[2]
        if claim[0] == "knot":
            return bool(model.knots(places))
        some = any(dish[:2] == claim[1:] for dish in model.dishes(places))
        return some == (claim[0] == "has")

    def worlds(self, moment):
        return sorted({row[moment] for row in self.rows})


def all_claims(table):
    people, kinds = range(table.people), range(len(table.kinds))
    found = [("knot",)] + [(word, person) for word in ("full", "free") for person in people]
    found += [("count", person, many) for person in people for many in range(-1, 6)]
    return found + [(word, kind, person) for word in ("has", "lacks") for kind in kinds for person in people]


class Checks(unittest.TestCase):
    def check_worlds(self, watch, seen, events):
        self.assertEqual(watch.now, len(events))
        for moment in range(len(events) + 1):
            self.assertEqual(watch.worlds(moment), seen.worlds(moment))

    def check_witness(self, table, watch, seen, moment, places):
        """The run goes through the places, and its row is one of those that fit."""
        run = watch.witness(moment, places)
        self.assertIsInstance(run, list)
        events = [event for event in watch.told()[0]]
        standing, row = Standing.empty(table), []
        for move in run:
            if move[0] == "enter" or move[2] == table.kinds[move[1]][0][-2]:
                self.assertEqual(move, seen.move(events.pop(0)))
                row.append(standing.places)
            standing = after(standing, move)
        self.assertEqual(events, [])
        row = tuple(row) + (standing.places,)
        self.assertIn(row, seen.rows)
        self.assertEqual(row[moment], places)

    def check_answer(self, watch, seen, moment, claim):
        answer = watch.ask(moment, claim)
        worlds = seen.worlds(moment)
        inside = [places for places in worlds if seen.holds(places, claim)]
        if len(inside) == len(worlds):
            self.assertEqual(answer, ("yes",))
        elif not inside:
            self.assertEqual(answer, ("no",))
        else:
            word, first, second = answer
            self.assertEqual((word, type(answer)), ("open", tuple))
            self.assertIn(first, inside)
            self.assertIn(second, worlds)
            self.assertNotIn(second, inside)
        return answer[0]


class AgainstAllRuns(Checks):
    def tell(self, watch, seen, event):
        """Tell the event, or see that it is impossible and that nothing is changed then."""
        rows = seen.with_event(event)
        self.assertIs(watch.could(event), bool(rows))
        if rows:
            self.assertIsNone(watch.tell(event))
            seen.rows = rows
        else:
            told = watch.told()
            self.assertEqual(refused(watch.tell, event), IMPOSSIBLE)
            self.assertEqual(watch.told(), told)
        return bool(rows)

    def fact(self, watch, seen, moment, claim):
        rows = seen.with_fact(moment, claim)
        if rows:
            self.assertIsNone(watch.fact(moment, claim))
            seen.rows = rows
        else:
            told = watch.told()
            self.assertEqual(refused(watch.fact, moment, claim), IMPOSSIBLE)
            self.assertEqual(watch.told(), told)
        return bool(rows)

    def follow(self, rule, table, most_events):
        """Tell events and facts in any order and compare everything after each of them."""
        watch, seen, events, facts = Watch(table), Seen(table), [], []
        done, claims = set(), all_claims(table)
        kinds = range(len(table.kinds))
        for _ in range(14):
            word = rule.choice(("enter", "enter", "down", "down", "fact", "fact"))
            if word == "fact" or not kinds:
                told = (rule.randrange(len(events) + 1), rule.choice(claims))
                done.add(("fact", self.fact(watch, seen, *told), told[0] < len(events)))
                facts = list(watch.told()[1])
            elif len(events) < most_events:
                event = (word, rule.choice(kinds))
                if word == "down" or len([past for past in events if past[0] == "enter"]) < 4:
                    done.add((word, self.tell(watch, seen, event)))
                    events = list(watch.told()[0])
            self.assertEqual(watch.told(), (tuple(events), tuple(facts)))
            self.check_worlds(watch, seen, events)
        for moment in range(len(events) + 1):
            for places in seen.worlds(moment)[::5]:
                self.check_witness(table, watch, seen, moment, places)
            done.update([self.check_answer(watch, seen, moment, claim) for claim in claims])
        return done

    def test_runs_with_a_few_events(self):
        rule = random.Random(51)
        done = set()
        for table in tables():
            for _ in range(6):
                done |= self.follow(rule, table, 5)
        self.assertLessEqual({("enter", True), ("enter", False), ("down", True), ("down", False),
                              ("fact", True, True), ("fact", False, True), ("fact", True, False),
                              ("fact", False, False), "yes", "no", "open"}, done)

    def test_safe_tables_have_no_knot(self):
        rule = random.Random(52)
        stuck = set()
        for table in tables():
            if table.is_tree() and table.kinds:
                watch = Watch(table)
                for _ in range(12):
                    event = (rule.choice(("enter", "enter", "down")), rule.randrange(len(table.kinds)))
                    if refused(watch.could, event) is None and watch.could(event):
                        watch.tell(event)
                for moment in range(watch.now + 1):
                    answer = watch.ask(moment, ("knot",))[0]
                    stuck.add((judge(table).STUCK, answer))
        self.assertLessEqual({(True, "yes"), (True, "no")}, stuck)
        self.assertEqual({answer for is_stuck, answer in stuck if not is_stuck}, {"no"})

    def test_the_order_of_facts_does_not_matter(self):
        rule = random.Random(53)
        for table in list(tables())[3:25]:
            watch = Watch(table)
            for _ in range(20):
                if table.kinds and watch.now < 6:
                    event = (rule.choice(("enter", "down")), rule.randrange(len(table.kinds)))
                    if refused(watch.could, event) is None and watch.could(event):
                        watch.tell(event)
            for _ in range(8):
                refused(watch.fact, rule.randrange(watch.now + 1), rule.choice(all_claims(table)))
            events, facts = watch.told()
            for turn in range(3):
                other = Watch(table)
                left = rule.sample(facts, len(facts))
                for event in events:
                    other.tell(event)
                    # Facts about past moments in between, the others when all events have been told.
                    if turn:
                        for told in [told for told in left if told[0] < other.now]:
                            other.fact(*told)
                            left.remove(told)
                for told in left:
                    other.fact(*told)
                for moment in range(watch.now + 1):
                    self.assertEqual(other.worlds(moment), watch.worlds(moment))


class Told(Checks):
    def row(self):
        return Watch(Table([1, 1, 1], ROW, [((0, 1, 2), 2)]))

    def test_example(self):
        watch = self.row()
        watch.tell(("enter", 0))
        watch.tell(("enter", 0))
        self.assertEqual((watch.worlds(1), watch.worlds(2), watch.ask(2, ("full", 1)), watch.could(("down", 0))),
                         ([((0, 1),)], [((1, 1),)], ("yes",), True))

    def test_nothing_told(self):
        watch = self.row()
        self.assertEqual((watch.now, watch.told(), watch.worlds(0)), (0, ((), ()), [((0, 0),)]))
        self.assertEqual(watch.witness(0, ((0, 0),)), [])
        self.assertIs(watch.could(("enter", 0)), True)
        self.assertIs(watch.could(("down", 0)), False)

    def test_a_fact_ahead_of_an_event(self):
        """The fact is about the end of the moment, just before the event; before that it need not hold."""
        watch = self.row()
        watch.tell(("enter", 0))
        self.assertEqual(watch.worlds(1), [((0, 1),), ((1, 0),)])
        watch.fact(1, ("full", 1))
        self.assertEqual(watch.worlds(1), [((0, 1),)])
        watch.tell(("down", 0))
        self.assertEqual(watch.worlds(2), [((0, 0),)])
        self.assertEqual(watch.witness(2, ((0, 0),)), [("enter", 0), ("pass", 0, 0), ("pass", 0, 1)])
        watch = self.row()
        watch.tell(("enter", 0))
        watch.fact(1, ("full", 0))
        self.assertIs(watch.could(("enter", 0)), False)
        self.assertIs(watch.could(("down", 0)), False)
        self.assertEqual(refused(watch.tell, ("down", 0)), IMPOSSIBLE)
        self.assertEqual(watch.told(), ((("enter", 0),), ((1, ("full", 0)),)))

    def test_a_later_event_bears_on_earlier_worlds(self):
        watch = self.row()
        watch.tell(("enter", 0))
        self.assertEqual(watch.ask(1, ("free", 0)), ("open", ((0, 1),), ((1, 0),)))
        self.assertIs(watch.could(("down", 0)), True)
        self.assertEqual(watch.ask(1, ("free", 0))[0], "open")
        watch.tell(("down", 0))
        self.assertEqual(watch.ask(1, ("free", 0)), ("yes",))
        self.assertEqual(watch.ask(1, ("has", 0, 0)), ("no",))
        self.assertEqual(refused(watch.fact, 1, ("has", 0, 0)), IMPOSSIBLE)

    def test_a_way_of_one_step(self):
        """Such a dish never passes unseen."""
        watch = Watch(Table([1, 1], [(0, 1)], [((0, 1), 1), ((1, 0), 1)]))
        watch.tell(("enter", 0))
        self.assertEqual(watch.worlds(1), [((1,), (0,))])
        watch.tell(("enter", 1))
        self.assertEqual(watch.ask(2, ("knot",)), ("yes",))
        self.assertIs(watch.could(("down", 0)), False)
        self.assertEqual(watch.ask(1, ("knot",)), ("no",))

    def test_claims_about_those_who_cannot_hold(self):
        watch = Watch(Table([1, 1, 1], ROW, [((0, 1), 1), ((1, 2), 1)]))
        watch.tell(("enter", 0))
        for kind, person in ((0, 1), (0, 2), (1, 0), (1, 2), (1, 1)):
            self.assertEqual(watch.ask(1, ("has", kind, person)), ("no",))
            self.assertEqual(watch.ask(1, ("lacks", kind, person)), ("yes",))
        self.assertEqual(watch.ask(1, ("has", 0, 0)), ("yes",))

    def test_any_count(self):
        watch = self.row()
        for many, answer in ((0, "yes"), (1, "no"), (-1, "no"), (FAR, "no"), (-FAR, "no")):
            self.assertEqual(watch.ask(0, ("count", 1, many)), (answer,))
        self.assertEqual(refused(watch.fact, 0, ("count", 1, FAR)), IMPOSSIBLE)
        self.assertIsNone(watch.fact(0, ("count", 1, 0)))

    def test_a_fact_that_is_told_again(self):
        watch = self.row()
        watch.fact(0, ("free", 0))
        watch.fact(0, ("free", 0))
        self.assertEqual(watch.told(), ((), ((0, ("free", 0)),) * 2))

    def test_what_is_returned_is_not_shared(self):
        watch = self.row()
        watch.tell(("enter", 0))
        watch.worlds(1).clear()
        watch.witness(1, ((0, 1),)).clear()
        self.assertEqual(watch.worlds(1), [((0, 1),), ((1, 0),)])
        self.assertEqual(watch.witness(1, ((0, 1),)), [("enter", 0), ("pass", 0, 0)])
        self.assertEqual(watch.told(), ((("enter", 0),), ()))

    def test_places_in_any_form(self):
        watch = self.row()
        watch.tell(("enter", 0))
        for places in watch.worlds(1):
            given = thawed(places)
            before = copy.deepcopy(given)
            self.assertEqual(watch.witness(1, given), watch.witness(1, places))
            self.assertEqual(given, before)

    def test_two_watches_of_one_table(self):
        table = Table([1, 1, 1], ROW, [((0, 1, 2), 2)])
        one, other = Watch(table), Watch(table)
        one.tell(("enter", 0))
        self.assertEqual((one.now, other.now, other.worlds(0)), (1, 0, [((0, 0),)]))

    def test_twelve_events(self):
        """Long histories on a table with many hands, held against the runs again."""
        rule = random.Random(54)
        table = Table([2, 1, 2, 1], [(0, 1), (1, 2), (2, 3), (0, 3)],
                      [((0, 1, 2, 3), 3), ((2, 1, 0), 2), ((3, 0), 1)], shares=[((0, 1), 4)])
        longest = 0
        for _ in range(8):
            watch, seen = Watch(table), Seen(table)
            for _ in range(60):
                event = (rule.choice(("enter", "down")), rule.randrange(3))
                if refused(watch.could, event) is None and watch.could(event):
                    watch.tell(event)
                    rows = seen.with_event(event)
                    # Only the ends of the last moment are kept, since the rows would become too many.
                    seen.rows = {row[-1:] for row in rows}
                    self.assertEqual(watch.worlds(watch.now), seen.worlds(0))
            longest = max(longest, watch.now)
            for moment in range(watch.now + 1):
                for places in watch.worlds(moment)[::3]:
                    run = watch.witness(moment, places)
                    told = [move for move in run
                            if move[0] == "enter" or move[2] == table.kinds[move[1]][0][-2]]
                    self.assertEqual(told, [seen.move(event) for event in watch.told()[0]])
                    self.assertIn(play(Standing.empty(table), run).places, watch.worlds(watch.now))
        self.assertEqual(longest, 12)


class Errors(unittest.TestCase):
    def test_building(self):
        line = list(zip(range(5), range(1, 6)))
        self.assertEqual(refused(Watch, Table([1] * 6, line, [])), too_great("people"))
        self.assertEqual(refused(Watch, Table([1] * 6, line, [], quick=line[:1])), NO_QUICK)
        self.assertEqual(refused(Watch, Table([1] * 3, RING, [], quick=RING[1:2])), NO_QUICK)
        self.assertIsNone(refused(Watch, Table([1] * 5, line[:4], [])))
        self.assertIsNone(refused(Watch, Table([1], [], [])))

    def check_told(self, watch, told):
        self.assertEqual((watch.told(), watch.now), (told, len(told[0])))

    def test_too_many_events(self):
        watch = Watch(Table([2, 1], [(0, 1)], [((0, 1), 2), ((1, 0), 1)]))
        for _ in range(6):
            watch.tell(("enter", 0))
            watch.tell(("down", 0))
        told = watch.told()
        for call in (watch.tell, watch.could):
            for word in ("enter", "down"):
                self.assertEqual(refused(call, (word, 0)), too_great("events"))
                for wrong in (-1, 2, FAR):
                    self.assertEqual(refused(call, (word, wrong)), no_such("kind"))
        self.check_told(watch, told)
        self.assertEqual(len(watch.worlds(12)), 1)

    def test_too_many_dishes(self):
        watch = Watch(Table([4, 4], [(0, 1)], [((0, 1), 24), ((1, 0), 0)]))
        for _ in range(4):
            self.assertIs(watch.could(("enter", 0)), True)
            watch.tell(("enter", 0))
        told = watch.told()
        for call in (watch.tell, watch.could):
            for kind in (0, 1):
                self.assertEqual(refused(call, ("enter", kind)), too_great("dishes"))
            self.assertEqual(refused(call, ("enter", 2)), no_such("kind"))
        self.assertEqual(refused(watch.tell, ("down", 1)), IMPOSSIBLE)
        self.assertIs(watch.could(("down", 1)), False)
        self.check_told(watch, told)
        for _ in range(3):
            watch.tell(("down", 0))
            watch.tell(("enter", 0))
            self.assertEqual(refused(watch.tell, ("enter", 0)), too_great("dishes"))
            self.assertEqual(refused(watch.could, ("enter", 1)), too_great("dishes"))
        watch.tell(("down", 0))
        watch.tell(("enter", 0))
        self.assertEqual(refused(watch.tell, ("enter", 0)), too_great("events"))
        self.assertEqual(watch.now, 12)

    def test_too_many_facts(self):
        watch = Watch(Table([1, 1], [(0, 1)], [((0, 1), 1)]))
        watch.tell(("enter", 0))
        for at in range(12):
            watch.fact(at // 6, ("free", 1))
        told = watch.told()
        self.assertEqual(len(told[1]), 12)
        for claim in (("free", 1), ("full", 1), ("knot",), ("count", 0, FAR)):
            self.assertEqual(refused(watch.fact, 0, claim), too_great("facts"))
            self.assertEqual(refused(watch.fact, 2, claim), no_such("moment"))
        for claim in (("full", 2), ("free", -1), ("count", 2, 0), ("has", 0, 2), ("lacks", 0, -1)):
            self.assertEqual(refused(watch.fact, 0, claim), no_such("person"))
        for claim in (("has", 1, 0), ("lacks", -1, 0)):
            self.assertEqual(refused(watch.fact, 0, claim), no_such("kind"))
        self.check_told(watch, told)
        self.assertIsNone(refused(watch.tell, ("down", 0)))

    def test_no_such(self):
        watch = Watch(Table([1, 1, 1], ROW, [((0, 1, 2), 2), ((2, 1), 1)]))
        watch.tell(("enter", 0))
        told = watch.told()
        for call in (watch.fact, watch.ask):
            for moment in (-1, 2, FAR):
                for claim in (("knot",), ("full", 9), ("has", 9, 9)):
                    self.assertEqual(refused(call, moment, claim), no_such("moment"))
            for moment in (0, 1):
                for wrong in (-1, 3, FAR):
                    for claim in (("full", wrong), ("free", wrong), ("count", wrong, 0), ("count", wrong, -1),
                                  ("has", 0, wrong), ("lacks", 1, wrong)):
                        self.assertEqual(refused(call, moment, claim), no_such("person"))
                for wrong in (-1, 2, FAR):
                    for claim in (("has", wrong, 0), ("lacks", wrong, 2), ("has", wrong, wrong), ("lacks", wrong, 9)):
                        self.assertEqual(refused(call, moment, claim), no_such("kind"))
        for call in (watch.worlds, lambda moment: watch.witness(moment, ((0, 1), (0,)))):
            for moment in (-1, 2, FAR):
                self.assertEqual(refused(call, moment), no_such("moment"))
        for wrong in (-1, 2, FAR):
            for word in ("enter", "down"):
                self.assertEqual(refused(watch.tell, (word, wrong)), no_such("kind"))
                self.assertEqual(refused(watch.could, (word, wrong)), no_such("kind"))
        self.check_told(watch, told)

    def test_no_such_world(self):
        watch = Watch(Table([1, 1, 1], ROW, [((0, 1, 2), 2)]))
        watch.tell(("enter", 0))
        for places in (((0, 0),), ((1, 1),), ((2, 0),), (), ((0, 1), (0, 1)), ((0, 1, 0),), ((-1, 2),), [[0, 0]]):
            self.assertEqual(refused(watch.witness, 1, places), no_such("world"))
        self.assertEqual(refused(watch.witness, 0, ((0, 1),)), no_such("world"))
        self.assertEqual(refused(watch.witness, 2, ((0, 0),)), no_such("moment"))
        self.assertIsNone(refused(watch.witness, 1, ((0, 1),)))
        watch.tell(("enter", 0))
        self.assertEqual(refused(watch.witness, 1, ((1, 0),)), no_such("world"))
