"""The desk: a tree and its standing, which are told what to do by lines."""

from fullhands.dealing.judge import judge
from fullhands.desk.lines import edited, read_line
from fullhands.errors import AttemptFailed, BadLine, FullhandsError, NothingToRedo, NothingToUndo
from fullhands.ground.check import need_tree
from fullhands.ground.words import join_words
from fullhands.least.dishes import least_dishes
from fullhands.least.effort import least_effort
from fullhands.moves.knot import knot, settle
from fullhands.moves.standing import Standing
from fullhands.moves.step import after

MOVES = ("enter", "pass", "swap")


class Desk:
    """A table, its standing, and the lines that can be taken back or done again."""

    def __init__(self, table):
        need_tree(table)
        self._standing = Standing.empty(table)
        # The lines that were done, each with the standing before it, and those taken back with the standing after it.
        self._done = []
        self._undone = []

    @staticmethod
    def replayed(table, log):
        desk = Desk(table)
        # Splitting the empty string would give one empty line, but as a log it has no line.
        if log != "":
            desk.attempt(log.split("\n"))
        return desk

    def do(self, line):
        told = read_line(line)
        if told is None:
            raise BadLine()
        if told[0] == "ask":
            return answer(self._standing, told[1])
        reply, standing = changed_by(self._standing, told)
        self._done.append((line, self._standing))
        self._undone = []
        self._standing = standing
        return reply

    def attempt(self, lines):
        before = (self._standing, list(self._done), list(self._undone))
        replies = []
        for index, line in enumerate(lines):
            try:
                replies.append(self.do(line))
            except FullhandsError:
                self._standing, self._done, self._undone = before
                raise AttemptFailed(index)
        return replies

    def undo(self):
        if not self._done:
            raise NothingToUndo()
        line, standing = self._done.pop()
        self._undone.append((line, self._standing))
        self._standing = standing
        return line

    def redo(self):
        if not self._undone:
            raise NothingToRedo()
        line, standing = self._undone.pop()
        self._done.append((line, self._standing))
        self._standing = standing
        return line

    def log(self):
        return "\n".join([line for line, _ in self._done])

    def present(self):
        return (self._standing.table, self._standing)


def changed_by(standing, told):
    """The reply to a move or an edit, and the standing after it. Raises CannotMove, NoSuch, BadTable, InUse."""
    if told[0] == "settle":
        run, settled = settle(standing)
        return (f"settled {len(run)}", settled)
    if told[0] in MOVES:
        return ("done", after(standing, told))
    return ("done", edited(standing, told))


def answer(standing, asked):
    """The reply to a question."""
    if asked == "safe":
        return "stuck" if judge(standing.table).STUCK else "safe"
    if asked == "dishes":
        return number_or_none(least_dishes(standing.table))
    if asked == "effort":
        return number_or_none(least_effort(standing.table))
    if asked == "knot":
        people = knot(standing)
        return join_words(people) if people else "none"
    return str(standing.total)


def number_or_none(number):
    return "none" if number is None else str(number)
