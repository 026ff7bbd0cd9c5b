import itertools
import random
import unittest

from fullhands.dealing.judge import judge
from fullhands.ground.table import Table
from fullhands.least.dishes import least_dishes
from fullhands.seen.sketch import Sketch
from tests.search import random_tree
from tests.support import bad_table, fields, no_such, refused
from tests.test_danger import bad_vector
from tests.test_judge import NO_TREE, RING

FAR = 10 ** 40
PAIR = [((0, 1), 1), ((1, 0), 1)]


def sketches(many=120):
    """The data of sketches with few enough worlds to go through all of them."""
    rule = random.Random(56)
    while many:
        table = random_tree(rule, people=(1, 4), hands=(1, 3), kinds=(0, 5), most=3, quick=0.15, shares=0.2)
        more_hands = [rule.choice((0, 0, 0, 1, 2)) for _ in table.hands]
        more_mosts = [rule.choice((0, 0, 1, 2)) for _ in table.kinds]
        worlds = 1
        for more in more_hands + more_mosts:
            worlds *= more + 1
        if worlds <= 60 and max(map(sum, zip(table.hands, more_hands))) <= 4:
            many -= 1
            yield table, more_hands, more_mosts


def worlds_of(table, more_hands, more_mosts):
    """All worlds by the words of point 56."""
    hands = [range(many, many + more + 1) for many, more in zip(table.hands, more_hands)]
    mosts = [range(most, most + more + 1) for (_, most), more in zip(table.kinds, more_mosts)]
    return [Table(row, table.ties, [(way, most) for (way, _), most in zip(table.kinds, bounds)],
                  quick=table.quick, shares=table.shares)
            for row in itertools.product(*hands) for bounds in itertools.product(*mosts)]


def endless(number):
    return float("inf") if number is None else number


class Worlds(unittest.TestCase):
    def test_ask_safe(self):
        answers = set()
        for table, more_hands, more_mosts in sketches():
            worlds = worlds_of(table, more_hands, more_mosts)
            stuck = {judge(world).STUCK for world in worlds}
            answer = Sketch(table, more_hands, more_mosts).ask_safe()
            self.assertIsInstance(answer, tuple)
            answers.add((answer[0], len(worlds) > 1))
            if len(stuck) == 1:
                self.assertEqual(answer, ("stuck",) if True in stuck else ("safe",))
            else:
                word, first, second = answer
                self.assertEqual((word, judge(first).STUCK, judge(second).STUCK), ("open", True, False))
                every = [fields(world) for world in worlds]
                self.assertTrue(fields(first) in every and fields(second) in every)
        self.assertEqual(answers, {("safe", False), ("safe", True), ("stuck", False), ("stuck", True), ("open", True)})

    def test_dishes_range(self):
        forms = set()
        for table, more_hands, more_mosts in sketches():
            found = [endless(least_dishes(world)) for world in worlds_of(table, more_hands, more_mosts)]
            least, greatest = Sketch(table, more_hands, more_mosts).dishes_range()
            self.assertEqual((endless(least), endless(greatest)), (min(found), max(found)))
            forms.add((least is None, greatest is None, least == greatest))
        self.assertEqual(len(forms), 4)

    def test_harsh_and_mild(self):
        for table, more_hands, more_mosts in sketches():
            sketch = Sketch(table, more_hands, more_mosts)
            harsh, mild = sketch.harsh(), sketch.mild()
            mosts = [most for _, most in table.kinds]
            self.assertEqual(harsh.hands, table.hands)
            self.assertEqual(mild.hands, tuple(map(sum, zip(table.hands, more_hands))))
            self.assertEqual([most for _, most in harsh.kinds], list(map(sum, zip(mosts, more_mosts))))
            self.assertEqual(mild.kinds, table.kinds)
            for world in (harsh, mild):
                self.assertEqual((world.ties, world.quick, world.shares), (table.ties, table.quick, table.shares))

    def test_told(self):
        for table, more_hands, more_mosts in list(sketches())[:60]:
            sketch = Sketch(table, more_hands, more_mosts)
            before = fields(sketch.harsh()), fields(sketch.mild())
            for person, more in enumerate(more_hands):
                for many in range(table.hands[person], table.hands[person] + more + 1):
                    known = more_hands[:person] + [0] + more_hands[person + 1:]
                    self.check_same(sketch.told_hands(person, many),
                                    Sketch(table.with_hands(person, many), known, more_mosts))
            for kind, more in enumerate(more_mosts):
                least = table.kinds[kind][1]
                for most in range(least, least + more + 1):
                    known = more_mosts[:kind] + [0] + more_mosts[kind + 1:]
                    self.check_same(sketch.told_most(kind, most),
                                    Sketch(table.with_most(kind, most), more_hands, known))
            self.assertEqual((fields(sketch.harsh()), fields(sketch.mild())), before)

    def check_same(self, one, other):
        self.assertIsInstance(one, Sketch)
        self.assertEqual((fields(one.harsh()), fields(one.mild())), (fields(other.harsh()), fields(other.mild())))

    def test_told_until_all_is_known(self):
        sketch = Sketch(Table([1, 1], [(0, 1)], PAIR), (3, 2), (23, 0))
        self.assertEqual((sketch.ask_safe()[0], sketch.dishes_range()), ("open", (2, None)))
        sketch = sketch.told_hands(0, 4)
        self.assertEqual((sketch.ask_safe()[0], sketch.dishes_range()), ("open", (5, None)))
        self.assertEqual(sketch.told_hands(1, 2).ask_safe(), ("safe",))
        known = sketch.told_hands(1, 1).told_most(0, 24)
        self.assertEqual((known.ask_safe(), known.dishes_range()), (("stuck",), (5, 5)))
        self.assertEqual((fields(known.harsh()), fields(known.mild())),
                         (fields(Table([4, 1], [(0, 1)], [((0, 1), 24), ((1, 0), 1)])),) * 2)
        self.assertEqual(refused(known.told_hands, 0, 2), no_such("number"))
        self.assertEqual(refused(known.told_most, 0, 23), no_such("number"))

    def test_arguments_stay_as_they_are(self):
        table = Table([1, 1], [(0, 1)], PAIR)
        more_hands, more_mosts = [1, 0], [0, 2]
        sketch = Sketch(table, more_hands, more_mosts)
        self.assertEqual((more_hands, more_mosts), ([1, 0], [0, 2]))
        more_hands[0] = more_mosts[0] = 0
        more_mosts.append(7)
        self.assertEqual((sketch.mild().hands, sketch.harsh().kinds), ((2, 1), (((0, 1), 1), ((1, 0), 3))))


class Errors(unittest.TestCase):
    def test_wrong_ground(self):
        ring = Table([1] * 3, RING, PAIR)
        for more_hands, more_mosts in (((0, 0, 0), (0, 0)), ((), ()), ((-1,) * 3, (0, 0)), ((9, 0, 0), (0, 99))):
            self.assertEqual(refused(Sketch, ring, more_hands, more_mosts), NO_TREE)

    def test_bad_vector(self):
        table = Table([1, 1], [(0, 1)], PAIR)
        for more_hands, more_mosts in (((), (0, 0)), ((0,), (0, 0)), ((0, 0, 0), (0, 0)), ((0, -1), (0, 0)),
                                       ((-1, 0), (0, 0)), ((0, 0), ()), ((0, 0), (0,)), ((0, 0), (0, 0, 0)),
                                       ((0, 0), (-1, 0)), ((0, 0), (0, -FAR)), ((4, 0), (0, -1)), ((9, -1), (99, 0)),
                                       ((4, 4), (0,)), ((1,), (99, 99))):
            self.assertEqual(refused(Sketch, table, more_hands, more_mosts), bad_vector(0))
            self.assertEqual(refused(Sketch, table, list(more_hands), list(more_mosts)), bad_vector(0))

    def test_bad_table(self):
        table = Table([1, 3], [(0, 1)], [((0, 1), 0), ((1, 0), 20)])
        for more_hands, more_mosts, place, index in (
                ((4, 0), (0, 0), "hands", 0), ((3, 2), (0, 0), "hands", 1), ((0, FAR), (0, 99), "hands", 1),
                ((4, 4), (99, 99), "hands", 0), ((3, 1), (25, 0), "kinds", 0), ((0, 0), (24, 5), "kinds", 1),
                ((0, 0), (FAR, FAR), "kinds", 0)):
            self.assertEqual(refused(Sketch, table, more_hands, more_mosts), bad_table(place, index))
        self.assertIsNone(refused(Sketch, table, (3, 1), (24, 4)))

    def test_told(self):
        sketch = Sketch(Table([1, 2], [(0, 1)], PAIR), [2, 0], [0, 3])
        for many in (-1, 0, 1, 9):
            for wrong in (-1, 2, FAR):
                self.assertEqual(refused(sketch.told_hands, wrong, many), no_such("person"))
                self.assertEqual(refused(sketch.told_most, wrong, many), no_such("kind"))
        for person, many in ((0, 0), (0, 4), (0, -1), (0, FAR), (1, 1), (1, 3)):
            self.assertEqual(refused(sketch.told_hands, person, many), no_such("number"))
        for kind, most in ((0, 0), (0, 2), (1, 0), (1, 5), (1, -1), (1, FAR)):
            self.assertEqual(refused(sketch.told_most, kind, most), no_such("number"))
        for person, many in ((0, 1), (0, 2), (0, 3), (1, 2)):
            self.assertIsNone(refused(sketch.told_hands, person, many))
        for kind, most in ((0, 1), (1, 1), (1, 2), (1, 4)):
            self.assertIsNone(refused(sketch.told_most, kind, most))
