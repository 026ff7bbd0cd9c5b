"""Where a host stands in its statements: positions, each of which leads to a send."""


def frozen_row(statements):
    """The statements of a row as tuples all the way down."""
    return tuple([frozen_statement(statement) for statement in statements])


def frozen_statement(statement):
    if statement[0] == "again":
        return ("again", statement[1], frozen_row(statement[2]))
    return ("send", tuple([tuple(flow) for flow in statement[1]]), statement[2])


def position_from(row, index):
    """The position at which this statement of the row begins."""
    if row[index][0] == "again":
        return (index, 0) + position_from(row[index][2], 0)
    return (index,)


def position_after(row, position):
    """The position of what is executed after the send at this one, or the empty tuple if the row is over then."""
    index = position[0]
    if len(position) > 1:
        over = position[1]
        _, rounds, body = row[index]
        inner = position_after(body, position[2:])
        if inner:
            return (index, over) + inner
        if over + 1 < rounds:
            return (index, over + 1) + position_from(body, 0)
    if index + 1 < len(row):
        return position_from(row, index + 1)
    return ()


def send_at(row, position):
    """The send at this position."""
    statement = row[position[0]]
    if len(position) > 1:
        return send_at(statement[2], position[2:])
    return statement
