"""Whether a program can get stuck on a tree, and with how few moves."""

from fullhands.dealing.judge import judge
from fullhands.errors import TooGreat, WrongGround
from fullhands.ground.check import need_tree
from fullhands.hosts.choice import choice_table, choices, chosen_sends, first_moves, need_kinds, over_before
from fullhands.least.effort import effort_certificate, least_effort

MOST_MOVES = 200


def judge_program(table, program):
    """The first choice that can get stuck, with a verdict, or None. Raises NoSuch, WrongGround."""
    need_slow_tree(table, program)
    for choice in choices(program):
        verdict = judge(choice_table(table, program, choice))
        if verdict.STUCK:
            return (choice, verdict)
    return None


def moves_to_knot(table, program):
    """The least number of moves that lead to a knot, or None. Raises NoSuch, WrongGround."""
    need_slow_tree(table, program)
    found = quickest(table, program)
    return None if found is None else found[0]


def schedule_to_knot(table, program):
    """A shortest schedule that leads to a knot, or None. Raises NoSuch, WrongGround, TooGreat."""
    need_slow_tree(table, program)
    found = quickest(table, program)
    if found is None:
        return None
    moves, choice = found
    if moves > MOST_MOVES:
        raise TooGreat("moves")
    schedule = []
    # Each dish that has to be sent before goes all its way alone, so that every hand is free for it.
    for host, send in enumerate(choice):
        for kind in kinds_sent(over_before(program[host], send)):
            schedule.extend(dish_schedule(table, host, kind))
    return schedule + knot_schedule(table, program, choice)


def need_slow_tree(table, program):
    need_kinds(table, program)
    need_tree(table)
    if table.quick:
        raise WrongGround("no quick")


def quickest(table, program):
    """The least number of moves to a knot and the first choice for which they suffice, or None."""
    found = []
    for choice in choices(program):
        effort = least_effort(choice_table(table, program, choice))
        if effort is not None:
            before = sum([first_moves(table, program, host, send) for host, send in enumerate(choice)])
            found.append((before + effort, choice))
    return min(found, default=None)


def kinds_sent(statements):
    """The kind of each dish that these statements send, one after another."""
    kinds = []
    for statement in statements:
        if statement[0] == "again":
            kinds.extend(kinds_sent(statement[2]) * statement[1])
        else:
            for many, kind in statement[1]:
                kinds.extend([kind] * many)
    return kinds


def dish_schedule(table, host, kind):
    """The moves that bring a dish of the host from its enter until it is put down."""
    way = table.kinds[kind][0]
    return [("enter", host, kind)] + [("pass", host, kind, person) for person in way[:-1]]


def knot_schedule(table, program, choice):
    """The moves that lead to a knot when all hosts have just begun their chosen sends."""
    _, verdict, _ = effort_certificate(choice_table(table, program, choice))
    # The kinds of the choice table, as the hosts and their own kinds.
    owners = []
    for host, (_, flows, _) in enumerate(chosen_sends(program, choice)):
        owners.extend([(host, kind) for _, kind in flows])
    return [move[:1] + owners[move[1]] + move[2:] for move in verdict.run]
