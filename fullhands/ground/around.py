"""Round tables: the round of their people, and which way the kinds go around it."""


def is_quick_round(table):
    """True for a round table all of whose ties are quick."""
    return table.is_round() and table.quick == table.ties


def round_people(table):
    """The people of a round table from person 0 on, the lower neighbour of person 0 next."""
    found = [0, table.neighbours(0)[0]]
    while len(found) < table.people:
        found.append([person for person in table.neighbours(found[-1]) if person != found[-2]][0])
    return tuple(found)


def is_forward(table, kind):
    """True if the first step of the kind's way goes as the round of this round table goes."""
    people = round_people(table)
    way = table.kinds[kind][0]
    return people[(people.index(way[0]) + 1) % len(people)] == way[1]
