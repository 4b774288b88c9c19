"""Relations that are made of relations."""

from sixkeepers.bounds import MAX_ARITY
from sixkeepers.closing import closure, numbered_row, row_number
from sixkeepers.errors import Unfit


def hull(relation, operations):
    """The relation with the fewest rows around this one that all of the operations keep."""
    arity, rows = relation
    found = closure([row_number(row) for row in rows], operations, (1 << arity) - 1, None)
    return (arity, tuple([numbered_row(number, arity) for number in sorted(found)]))


def check_alike(one, other):
    """Raises Unfit if the arities are unlike."""
    if one[0] != other[0]:
        raise Unfit()


def common(one, other):
    """The relation of the rows of both."""
    check_alike(one, other)
    return (one[0], tuple([row for row in one[1] if row in other[1]]))


def either_of(one, other):
    """The relation of the rows of one of both or of both."""
    check_alike(one, other)
    return (one[0], tuple(sorted(set(one[1] + other[1]))))


def beside(one, other):
    """The relation of all rows of one followed by one of other."""
    arity = one[0] + other[0]
    if arity > MAX_ARITY:
        raise Unfit()
    return (arity, tuple([row + behind for row in one[1] for behind in other[1]]))


def seen(relation, places):
    """The relation of what the rows have at the places."""
    rows = sorted({tuple([row[place] for place in places]) for row in relation[1]})
    return (len(places), tuple(rows))


def opposite(relation):
    """The relation of the rows with 1 for 0 and 0 for 1."""
    rows = sorted([tuple([1 - item for item in row]) for row in relation[1]])
    return (relation[0], tuple(rows))
