"""Programs told again for plain rows: which lines are right, and how programs are played."""

import functools
import random
import re

from tests.model import Model

HUGE = 10 ** 30


def flat(statements):
    """The sends of a host in the order in which they are written."""
    found = []
    for statement in statements:
        found.extend(flat(statement[2]) if statement[0] == "again" else [statement])
    return found


def unrolled(statements):
    """The sends of a host in the order in which they are executed, each as its number and itself."""
    def numbered(row, number):
        new = []
        for statement in row:
            if statement[0] == "again":
                body, number = numbered(statement[2], number)
                new.append((statement[1], body))
            else:
                new.append((number, statement))
                number += 1
        return new, number

    def executed(row):
        for first, second in row:
            if isinstance(second, tuple):
                yield first, second
            else:
                for _ in range(first):
                    yield from executed(second)

    return list(executed(numbered(statements, 0)[0]))


def is_right(line):
    """True if the line is one of a program: agains are replaced by one word from the inside out until none is left."""
    number = r"(0|[1-9][0-9]*)"
    send = rf"(send {number} of {number}( and {number} of {number})?( window {number})?|DONE)"
    for word in line.split(" "):
        if word.isdigit() and (int(word) > HUGE or len(word) > 40):
            return False
    for found in re.findall(r"of (\S+)", line):
        if not re.fullmatch("[0-5]", found):
            return False
    for found in re.findall(r"(?:send|and|window|again) (\S+)", line):
        if found == "0":
            return False
    for one, other in re.findall(r"of (\S+) and \S+ of (\S+)", line):
        if one == other:
            return False
    before = None
    while before != line:
        before = line
        line = re.sub(rf"again {number} \( {send}( ; {send})* \)", "DONE", line)
    return re.fullmatch(rf"host {send}( ; {send})*", line) is not None


ENDINGS = [["host", "send", "1", "of", "0"][at:] for at in range(6)]
ENDINGS += [["send", "1", "of", "5"][at:] for at in range(1, 4)]
ENDINGS += [["1", "("][at:] + ["send", "1", "of", "0"] for at in range(2)]
ENDINGS = [ending + [")"] * many for ending in ENDINGS for many in range(6)]


@functools.cache
def can_go_on(start):
    """True if some line of a program begins with these words."""
    return any(is_right(" ".join([start] + ending)) for ending in ENDINGS)


def wrong_word(line):
    """The index of the first wrong word, or the number of words if the line ends too early, or None."""
    words = line.split(" ")
    for at in range(len(words)):
        if not can_go_on(" ".join(words[:at + 1])):
            return at
    return None if is_right(line) else len(words)


class HostPlay:
    """Point 59 told again: all that can happen when a program with few rounds is played on a table."""

    def __init__(self, table, program):
        self.model = Model(table)
        self.hosts = [unrolled(host) for host in program]
        self.start = tuple((0, *self.begun(host, 0)) for host in range(len(program)))

    def begun(self, host, at):
        """Nothing has entered yet of the send with this index, and nothing is on the way."""
        if at == len(self.hosts[host]):
            return (), ()
        flows = self.hosts[host][at][1][1]
        return (0,) * len(flows), tuple((0,) * (len(self.model.kinds[kind][0]) - 1) for _, kind in flows)

    def dishes(self, state):
        """Each dish on the way as its person and the person whom it wants."""
        found = []
        for host, (at, _, rows) in enumerate(state):
            for index, row in enumerate(rows):
                way = self.model.kinds[self.hosts[host][at][1][1][index][1]][0]
                found += [(way[step], way[step + 1]) for step, many in enumerate(row) for _ in range(many)]
        return found

    def has_knot(self, state):
        return bool(self.knot(state))

    def knot(self, state):
        """The people of the greatest knot."""
        dishes = self.dishes(state)
        members = {person for person, many in enumerate(self.model.hands)
                   if [holder for holder, _ in dishes].count(person) == many}
        while True:
            left = {person for person in members
                    if all(wanted in members for holder, wanted in dishes if holder == person)}
            if left == members:
                return members
            members = left

    def steps(self, state):
        """The possible moves with the states that they lead to."""
        held = [holder for holder, _ in self.dishes(state)]
        free = [many - held.count(person) for person, many in enumerate(self.model.hands)]
        for host, (at, entered, rows) in enumerate(state):
            if at == len(self.hosts[host]):
                continue
            _, flows, window = self.hosts[host][at][1]
            for index, (many, kind) in enumerate(flows):
                way = self.model.kinds[kind][0]
                fits = window is None or sum(map(sum, rows)) < window
                if entered[index] < many and fits and free[way[0]]:
                    more = entered[:index] + (entered[index] + 1,) + entered[index + 1:]
                    yield ("enter", host, kind), self.changed(state, host, more, index, [(0, 1)])
                for step, there in enumerate(rows[index]):
                    if there and free[way[step + 1]]:
                        later = self.changed(state, host, entered, index, [(step, -1), (step + 1, 1)])
                        yield ("pass", host, kind, way[step]), later

    def changed(self, state, host, entered, index, changes):
        at, _, rows = state[host]
        row = list(rows[index])
        for step, many in changes:
            if step < len(row):
                row[step] += many
        rows = rows[:index] + (tuple(row),) + rows[index + 1:]
        over = all(count == many for count, (many, _) in zip(entered, self.hosts[host][at][1][1]))
        if over and not any(map(sum, rows)):
            return state[:host] + ((at + 1, *self.begun(host, at + 1)),) + state[host + 1:]
        return state[:host] + ((at, entered, rows),) + state[host + 1:]

    def moves_to_knot(self):
        """The least number of moves to a standing with a knot, or None."""
        found, line, moves = {self.start}, [self.start], 0
        while line:
            later = []
            for state in line:
                if self.has_knot(state):
                    return moves
                for _, after in self.steps(state):
                    if after not in found:
                        found.add(after)
                        later.append(after)
            line, moves = later, moves + 1
        self.reached = found
        return None

    def after(self, schedule):
        """The state after these moves, or None if one of them cannot be made."""
        state = self.start
        for move in schedule:
            later = dict(self.steps(state))
            if move not in later:
                return None
            state = later[move]
        return state


def random_statement(rule, kinds, depth, most, rounds):
    if depth and rule.random() < 0.3:
        body = [random_statement(rule, kinds, depth - 1, most, rounds) for _ in range(rule.randint(1, 2))]
        return ("again", rule.randint(1, rounds), tuple(body))
    chosen = rule.sample(kinds, rule.randint(1, min(2, len(kinds))))
    window = rule.randint(1, most) if rule.random() < 0.4 else None
    return ("send", tuple((rule.randint(1, most), kind) for kind in chosen), window)


def random_program(rule, kinds, *, hosts=(1, 3), depth=3, most=3, rounds=3, sends=6):
    """A program with these kinds and at most this many sends."""
    while True:
        program = tuple(tuple(random_statement(rule, kinds, depth, most, rounds) for _ in range(rule.randint(1, 2)))
                        for _ in range(rule.randint(*hosts)))
        if sum(len(flat(host)) for host in program) <= sends:
            return program


def random_programs(seed, many):
    rule = random.Random(seed)
    return [random_program(rule, range(6), most=rule.choice((3, 40, HUGE)), rounds=rule.choice((3, HUGE)))
            for _ in range(many)]
