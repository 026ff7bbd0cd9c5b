"""What several test files need."""

from fullhands.errors import FullhandsError


def refused(call, *args, **more):
    """The class name and the fields of the error that the call raises, or None if it raises none."""
    try:
        call(*args, **more)
    except FullhandsError as error:
        assert isinstance(error, ValueError)
        return (error.__class__.__name__,) + tuple(vars(error).items())
    return None


def bad_table(place, index):
    return ("BadTable", ("place", place), ("index", index))


def bad_standing(place, index):
    return ("BadStanding", ("place", place), ("index", index))


def bad_text(line):
    return ("BadText", ("line", line))


def no_such(what):
    return ("NoSuch", ("what", what))


def cannot_move(reason, index=0):
    return ("CannotMove", ("index", index), ("reason", reason))


def fields(table):
    """All data of a table."""
    return (table.hands, table.ties, table.kinds, table.quick, table.shares)


def thawed(rows):
    """The same rows as lists, all the way down."""
    if isinstance(rows, (list, tuple)):
        return [thawed(row) for row in rows]
    return rows


def frozen(rows):
    """The same rows as tuples, all the way down."""
    if isinstance(rows, (list, tuple)):
        return tuple(frozen(row) for row in rows)
    return rows


def mixed(rows, turn=0):
    """The same rows as tuples and lists in turns, beside each other and from one depth to the next."""
    if isinstance(rows, (list, tuple)):
        new = [mixed(row, turn + 1 + at) for at, row in enumerate(rows)]
        return new if turn % 2 else tuple(new)
    return rows
