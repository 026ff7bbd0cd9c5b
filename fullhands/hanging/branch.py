"""The loads of trees at a person, and what trees with known loads come to when they are hung together."""

from fullhands.errors import NoSuch, TooGreat
from fullhands.ground.check import MOST_HANDS, need_person, need_tree
from fullhands.hanging.boundless import least_of, sum_of
from fullhands.hanging.loads import Loads
from fullhands.least.dishes import least_dishes
from fullhands.least.effort import least_effort

MOST_HUNG = 3
# From so many pieces on, one piece more changes nothing in the loads of a chain.
PIECES = 4


def dish_loads(table, person):
    """The least dishes of the tree, by the hands of this person. Raises NoSuch, WrongGround."""
    return loads_at(table, person, False)


def effort_loads(table, person):
    """The least effort of the tree, by the hands of this person. Raises NoSuch, WrongGround."""
    return loads_at(table, person, True)


def least_with(table, hung, *, by_effort=False):
    """The least dishes or the least effort of the tree with trees of these loads hung at these people, or None.

    Raises NoSuch, WrongGround, TooGreat.
    """
    for person, _ in hung:
        need_person(table, person)
    need_tree(table)
    if len(hung) > MOST_HUNG:
        raise TooGreat("hung")
    together = {}
    for person, loads in hung:
        together[person] = together.get(person, Loads.none()) + loads
    return least_hung(table, together, by_effort)


def chain_loads(piece, outer, inner, many):
    """The dish loads of a chain of so many pieces at its outer port. Raises NoSuch, WrongGround."""
    need_person(piece, outer)
    need_person(piece, inner)
    if outer == inner:
        raise NoSuch("port")
    loads = dish_loads(piece, outer)
    for _ in range(min(many, PIECES) - 1):
        loads = loads_with(piece, outer, [(inner, loads)])
    return loads


def loads_at(table, person, by_effort):
    """The dish loads or the effort loads of the tree at this person. Raises NoSuch, WrongGround."""
    return Loads([least_number(tree, by_effort) for tree in trees_by_hands(table, person)])


def loads_with(table, person, hung):
    """The dish loads of the tree at this person when trees of these loads are hung elsewhere."""
    return Loads([least_with(tree, hung) for tree in trees_by_hands(table, person)])


def trees_by_hands(table, person):
    """The tree with 1, 2 and so on hands at this person."""
    return [table.with_hands(person, hands) for hands in range(1, MOST_HANDS + 1)]


def least_number(table, by_effort):
    return least_effort(table) if by_effort else least_dishes(table)


def least_hung(table, together, by_effort):
    """The least number of the tree, when the people in `together` have loads hung at them."""
    found = [loads[table.hands[person]] for person, loads in together.items()]
    # The hands that are filled from what is hung, with their cost, and the tree that has to fill the others.
    parts = [(0, table)]
    for person, loads in together.items():
        parts = [(sum_of([cost, loads[hands]]), tree.with_hands(person, tree.hands[person] - hands))
                 for cost, tree in parts for hands in range(tree.hands[person])]
    found.extend([sum_of([cost, least_number(tree, by_effort)]) for cost, tree in parts if cost is not None])
    return least_of(found)
