"""Choices of one send for each host, their tables, and the moves that come before them."""

from fullhands.errors import NoSuch
from fullhands.ground.check import MOST_BOUND
from fullhands.ground.table import Table
from fullhands.hosts.program import need_host, sends, sends_within


def first_moves(table, program, host, send):
    """The moves that the host has made when it begins this send for the first time. Raises NoSuch."""
    need_host(program, host)
    if not 0 <= send < len(sends(program, host)):
        raise NoSuch("send")
    need_kinds(table, program)
    return moves_of(table, over_before(program[host], send))


def total_moves(table, program):
    """The moves that all hosts make until they have finished. Raises NoSuch."""
    need_kinds(table, program)
    return sum([moves_of(table, host) for host in program])


def choices(program):
    """All choices, in tuple order."""
    rows = [()]
    for host in program:
        rows = [row + (send,) for row in rows for send in range(len(sends_within(host)))]
    yield from rows


def choice_table(table, program, choice):
    """The table on which only the chosen sends are made, all at once. Raises NoSuch."""
    chosen = chosen_sends(program, choice)
    need_kinds(table, program)
    kinds = []
    shares = []
    for _, flows, window in chosen:
        if window is not None:
            members = [len(kinds) + index for index in range(len(flows))]
            shares.append((members, min(window, MOST_BOUND)))
        kinds.extend([(table.kinds[kind][0], min(many, MOST_BOUND)) for many, kind in flows])
    return Table(table.hands, table.ties, kinds, shares=shares)


def need_kinds(table, program):
    for host in program:
        for _, flows, _ in sends_within(host):
            if any([kind >= len(table.kinds) for _, kind in flows]):
                raise NoSuch("kind")


def chosen_sends(program, choice):
    """The chosen send of each host. Raises NoSuch."""
    if len(choice) != len(program):
        raise NoSuch("choice")
    rows = [sends_within(host) for host in program]
    if not all([0 <= send < len(row) for send, row in zip(choice, rows)]):
        raise NoSuch("choice")
    return [row[send] for send, row in zip(choice, rows)]


def over_before(statements, send):
    """What is executed, statement by statement, before the send with this number among them begins first."""
    over = []
    left = send
    for statement in statements:
        many = len(sends_within([statement]))
        if left < many:
            inner = over_before(statement[2], left) if statement[0] == "again" else []
            return over + inner
        over.append(statement)
        left -= many
    return over


def moves_of(table, statements):
    """The moves with which these statements are executed: an enter for each dish, and a pass for each step."""
    moves = 0
    for statement in statements:
        if statement[0] == "again":
            moves += statement[1] * moves_of(table, statement[2])
        else:
            moves += sum([many * len(table.kinds[kind][0]) for many, kind in statement[1]])
    return moves
