"""The six keepers, and what keeps relations and stocks."""

from sixkeepers.closing import numbered_row, results, row_number
from sixkeepers.masks import stock_mask

KEEPERS = (
    ("low", (0, 0)),
    ("high", (1, 1)),
    ("both", (0, 0, 0, 1)),
    ("either", (0, 1, 1, 1)),
    ("most", (0, 0, 0, 1, 0, 1, 1, 1)),
    ("odd", (0, 1, 1, 0, 1, 0, 0, 1)),
)


def laid(operation, rows):
    """The row that the operation gives, laid on the rows place by place."""
    return tuple([operation[row_number(column)] for column in zip(*rows)])


def broken(operation, relation):
    """Rows of the relation on which the operation gives no row of it, None if there are none."""
    arity, rows = relation
    known = [row_number(row) for row in rows]
    held = set(known)
    for number, parts in results(operation, known, (1 << arity) - 1).items():
        if number not in held:
            return tuple([numbered_row(part, arity) for part in parts])
    return None


def keeps(operation, relation):
    """Whether the operation keeps the relation."""
    return broken(operation, relation) is None


def keepers(relation):
    """The names of those of the six that keep the relation."""
    return kept_by((relation,))


def kept_by(stock):
    """The names of those of the six that keep the stock."""
    return tuple([name for name, operation in KEEPERS if keeps_all(operation, stock)])


def keeps_all(operation, relations):
    """Whether the operation keeps all of the relations."""
    for relation in relations:
        if not keeps(operation, relation):
            return False
    return True


def way(stock):
    """The first name of those that keep the stock, None if there is none."""
    names = kept_by(stock)
    return names[0] if len(names) > 0 else None


def all_keepers(stock, many):
    """All operations of many things that keep the stock, ascending."""
    values = 1 << many
    mask = stock_mask(stock, many)
    return tuple([numbered_row(number, values) for number in range(1 << values) if (mask >> number) & 1 == 1])
