"""The points told again for plain rows, in other ways than the program, and small tables to try them on."""

import itertools

from fullhands.ground.table import Table
from fullhands.moves.standing import Standing


class Model:
    """The points told again for plain rows, so that the program can be held against them."""

    def __init__(self, table):
        self.hands, self.kinds, self.shares = table.hands, table.kinds, table.shares
        self.ties, self.quick = table.ties, set(table.quick)

    def dishes(self, places):
        """Each dish that is held, as a kind, its person and the person whom it wants."""
        return [(kind, way[at], way[at + 1]) for kind, (way, _) in enumerate(self.kinds)
                for at, many in enumerate(places[kind]) for _ in range(many)]

    def held(self, places, person):
        return len([dish for dish in self.dishes(places) if dish[1] == person])

    def fits(self, places):
        if any(self.held(places, person) > many for person, many in enumerate(self.hands)):
            return False
        if any(sum(row) > most for row, (_, most) in zip(places, self.kinds)):
            return False
        return all(sum(sum(places[kind]) for kind in kinds) <= bound for kinds, bound in self.shares)

    def all_places(self):
        """The places of all standings of the table, in ascending order."""
        rows = [[row for row in itertools.product(range(5), repeat=len(way) - 1) if sum(row) <= most]
                for way, most in self.kinds]
        return [places for places in itertools.product(*rows) if self.fits(places)]

    def all_moves(self):
        """All moves of the three forms over the people and kinds of the table, in the order of point 15."""
        kinds, people = range(len(self.kinds)), range(len(self.hands))
        enters = [("enter", kind) for kind in kinds]
        passes = [("pass", kind, person) for kind in kinds for person in self.kinds[kind][0]]
        swaps = [("swap",) + numbers for numbers in itertools.product(kinds, people, kinds, people)]
        return enters + passes + swaps

    def reason(self, places, move):
        return getattr(self, move[0] + "_reason")(places, *move[1:])

    def enter_reason(self, places, kind):
        way, most = self.kinds[kind]
        if sum(places[kind]) == most:
            return "most"
        for kinds, bound in self.shares:
            if kind in kinds and sum(sum(places[other]) for other in kinds) == bound:
                return "share"
        return "hands" if self.held(places, way[0]) == self.hands[way[0]] else None

    def pass_reason(self, places, kind, person):
        wanted = [dish[2] for dish in self.dishes(places) if dish[:2] == (kind, person)]
        if not wanted:
            return "none"
        return "hands" if self.held(places, wanted[0]) == self.hands[wanted[0]] else None

    def swap_reason(self, places, kind, person, other_kind, other):
        if person >= other:
            return "unknown"
        if (person, other) not in self.quick:
            return "tie"
        dishes = self.dishes(places)
        there = (kind, person, other) in dishes and (other_kind, other, person) in dishes
        return None if there else "none"

    def after(self, places, move):
        rows = [list(row) for row in places]
        if move[0] == "enter":
            rows[move[1]][0] += 1
        for kind, person in {"enter": [], "pass": [move[1:3]], "swap": [move[1:3], move[3:5]]}[move[0]]:
            at = self.kinds[kind][0].index(person)
            rows[kind][at] -= 1
            if at + 1 < len(rows[kind]):
                rows[kind][at + 1] += 1
        return tuple([tuple(row) for row in rows])

    def steps(self, places, enters):
        """The possible moves with the places that they lead to."""
        moves = [move for move in self.all_moves() if enters or move[0] != "enter"]
        return [(move, self.after(places, move)) for move in moves if self.reason(places, move) is None]

    def led_to(self, places, enters=False):
        """The set of all places to which runs lead, these included."""
        found, line = {places}, [places]
        while line:
            for _, later in self.steps(line.pop(), enters):
                if later not in found:
                    found.add(later)
                    line.append(later)
        return found

    def empty(self):
        return tuple([(0,) * (len(way) - 1) for way, _ in self.kinds])

    def is_knot(self, places, people):
        """Point 18, word by word."""
        dishes = self.dishes(places)
        if not people or any(self.held(places, person) != self.hands[person] for person in people):
            return False
        if any(person in people and wanted not in people for _, person, wanted in dishes):
            return False
        wants = {(person, wanted) for _, person, wanted in dishes}
        return not any((one, other) in wants and (other, one) in wants
                       for one, other in self.quick if one in people and other in people)

    def knots(self, places):
        """All knots, each one a set of people."""
        people = range(len(self.hands))
        return [set(some) for many in people for some in itertools.combinations(people, many + 1)
                if self.is_knot(places, some)]

    def is_joined(self, people):
        """True if a tie crosses each way of parting the people in two."""
        for many in range(1, len(people)):
            for part in itertools.combinations(people, many):
                rest = set(people) - set(part)
                if not any((one in part and other in rest) or (one in rest and other in part)
                           for one, other in self.ties):
                    return False
        return True

    def lots(self, slow=False):
        """Point 22: all lots in their order."""
        people = range(len(self.hands))
        found = [lot for many in range(2, len(people) + 1) for lot in itertools.combinations(people, many)
                 if self.is_joined(lot)]
        return [lot for lot in found if not (slow and any(set(tie) <= set(lot) for tie in self.quick))]

    def wanted(self, kind, person):
        """Whom a dish of the kind wants at this person, or None."""
        way = self.kinds[kind][0]
        return dict(zip(way, way[1:])).get(person)

    def can_hold(self, lot, kind, person):
        return person in lot and self.wanted(kind, person) in lot

    def rows(self, lot, person):
        """All rows that fill the hands of this person of the lot."""
        many = self.hands[person]
        entries = [range(min(many, most) + 1) if self.can_hold(lot, kind, person) else (0,)
                   for kind, (_, most) in enumerate(self.kinds)]
        return [row for row in itertools.product(*entries) if sum(row) == many]

    def keeps_bounds(self, used):
        if any(many > most for many, (_, most) in zip(used, self.kinds)):
            return False
        return all(sum(used[kind] for kind in kinds) <= bound for kinds, bound in self.shares)

    def dealings(self, lot):
        """Point 23: all dealings of the lot."""
        return [rows for rows in itertools.product(*[self.rows(lot, person) for person in lot])
                if self.keeps_bounds([sum(column) for column in zip(*rows)])]

    def supply(self, lot, people):
        """Point 24, first sentence: the greatest number that the bounds allow, found by trying all of them."""
        entries = [range(most + 1) if any(self.can_hold(lot, kind, person) for person in people) else (0,)
                   for kind, (_, most) in enumerate(self.kinds)]
        return max(sum(used) for used in itertools.product(*entries) if self.keeps_bounds(used))

    def is_short(self, lot, people):
        fits = people and set(people) <= set(lot) and list(people) == sorted(set(people))
        return bool(fits) and sum(self.hands[person] for person in people) > self.supply(lot, people)

    def is_core(self, lot, rows):
        """Point 25, first sentence."""
        wants = {(person, self.wanted(kind, person)) for person, row in zip(lot, rows)
                 for kind, many in enumerate(row) if many > 0}
        within = [tie for tie in self.ties if set(tie) <= set(lot)]
        return all((one, other) in wants and (other, one) in wants for one, other in within)

    def passes_behind(self, places):
        """The sum over the dishes of the passes that brought them to their people."""
        return sum(self.kinds[kind][0].index(person) for kind, person, _ in self.dishes(places))


def small_tables():
    """Tables with few enough standings to go through all of them."""
    row = [(0, 1), (1, 2)]
    ring = [(0, 1), (1, 2), (0, 2)]
    return [
        Table([1], [], []),
        Table([1, 1], [(0, 1)], []),
        Table([1, 1], [(0, 1)], [((0, 1), 1), ((1, 0), 1)], quick=[(0, 1)]),
        Table([1, 2, 1], row, [((0, 1, 2), 3), ((2, 1), 1)]),
        Table([1, 2, 1], row, [((1, 2), 1), ((2, 1, 0), 2), ((0, 1, 2), 2), ((1, 0), 1)], quick=row),
        Table([2, 2, 1], row, [((0, 1, 2), 3), ((2, 1, 0), 2), ((1, 0), 1)], quick=row),
        Table([1, 2, 2], row, [((0, 1, 2), 2), ((2, 1, 0), 2), ((1, 2), 2)], quick=[(1, 2)], shares=[((0, 2), 2)]),
        Table([2, 1, 2], row, [((0, 1, 2), 2), ((2, 1, 0), 2), ((2, 1), 0)], shares=[((0, 1), 2), ((2,), 1)]),
        Table([2, 2, 2], ring, [((0, 1, 2), 2), ((1, 2, 0), 2), ((2, 1, 0), 2)], quick=ring, shares=[((1,), 1)]),
        Table([1, 1, 1, 1], [(0, 3), (1, 3), (2, 3)],
              [((0, 3, 1), 1), ((1, 3, 2), 1), ((2, 3, 0), 2), ((3, 0), 1), ((1, 3, 0), 1)],
              quick=[(0, 3), (2, 3)], shares=[((3, 4), 1)]),
        Table([1, 1, 1], ring, [((0, 1, 2), 1), ((1, 2, 0), 1), ((2, 0, 1), 1)]),
        Table([1, 1, 1], ring, [((0, 1, 2), 1), ((1, 2, 0), 1), ((2, 0, 1), 1)], quick=ring),
        Table([1, 1, 2, 1, 1], [(0, 1), (1, 2), (2, 3), (3, 4)],
              [((0, 1), 1), ((1, 0), 1), ((3, 4), 1), ((4, 3), 1), ((1, 2, 3), 2), ((3, 2, 1), 1)]),
    ]


def dealing_tables():
    """Tables with few enough dealings to list all of them: trees, round tables and other webs."""
    row = [(0, 1), (1, 2)]
    star = [(0, 1), (0, 2), (0, 3)]
    four = [(0, 1), (1, 2), (2, 3), (0, 3)]
    there_and_back = [((0, 1, 2), 3), ((2, 1, 0), 3), ((1, 0), 2), ((1, 2), 2)]
    around = [((0, 1, 2), 2), ((1, 2, 3), 2), ((2, 3, 0), 2), ((3, 0, 1), 2), ((1, 0, 3), 1), ((3, 2), 1)]
    tables = [
        Table([2, 3, 2], row, there_and_back, quick=[(1, 2)]),
        Table([2, 3, 2], row, there_and_back, shares=[((0, 2), 3)]),
        Table([2, 3, 2], row, there_and_back, shares=[((1, 3), 2), ((0,), 2), ((2,), 0)]),
        Table([1, 2, 1], row, [((0, 1, 2), 1), ((2, 1, 0), 0), ((2, 1), 1), ((1, 0), 1)], shares=[((0, 3), 24)]),
        Table([3, 1, 1, 1], star, [((1, 0, 2), 2), ((2, 0, 3), 2), ((3, 0, 1), 2)]),
        Table([3, 1, 1, 1], star, [((1, 0, 2), 2), ((2, 0, 3), 2), ((3, 0, 1), 2)], shares=[((0, 1, 2), 5)]),
        Table([3, 1, 2, 1], star, [((1, 0, 2), 2), ((2, 0, 3), 2), ((3, 0, 1), 1), ((2, 0), 1)], quick=[(0, 3)]),
        Table([1, 1, 1, 1], four, around),
        Table([1, 2, 1, 2], four, around, shares=[((0, 2), 2), ((5,), 0)], quick=[(2, 3)]),
        Table([2, 1, 2, 1], four + [(0, 2)], around, shares=[((1, 3), 1)]),
    ]
    return small_tables() + tables


def each_lot():
    """All lots of these tables, each with its table and the model of it."""
    for table in dealing_tables():
        model = Model(table)
        for lot in model.lots():
            yield table, model, lot


def each_standing():
    """All standings of the small tables, each with the model of its table."""
    for table in small_tables():
        model = Model(table)
        for places in model.all_places():
            yield model, Standing(table, places)
