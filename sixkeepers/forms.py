"""What is a relation, a stock, a case, a row, an answer."""

from sixkeepers.bounds import MAX_ARITY, MAX_FACTS, MAX_ROWS, MAX_STOCK, MAX_UNKNOWNS


def is_between(value, low, high):
    """Whether the value is an integer, no bool, from low to high."""
    return isinstance(value, int) and not isinstance(value, bool) and low <= value <= high


def is_tuple_of(value, many):
    """Whether the value is a tuple of many items."""
    return isinstance(value, tuple) and len(value) == many


def is_ascending(items):
    """Whether each of the items, integers or tuples of such, is greater than the one before it."""
    return all([items[k] < items[k + 1] for k in range(len(items) - 1)])


def is_row(value, many):
    """Whether the value is a row of many items."""
    return is_tuple_of(value, many) and all([is_between(item, 0, 1) for item in value])


def rows_error(rows, arity):
    """The first item that is wrong in what should be ascending rows of arity items."""
    for index, row in enumerate(rows):
        if not is_row(row, arity):
            return (index, "row")
        if index > 0 and not row > rows[index - 1]:
            return (index, "order")
    return None


def bounded_error(value, most):
    """What is wrong with a relation that may have most places."""
    if not is_tuple_of(value, 2):
        return (None, "relation")
    arity, rows = value
    if not is_between(arity, 1, most):
        return (None, "arity")
    if not isinstance(rows, tuple):
        return (None, "rows")
    return rows_error(rows, arity)


def relation_error(value):
    """None for a relation, otherwise what is wrong with the value."""
    return bounded_error(value, MAX_ARITY)


def is_stocked(value):
    """Whether the value is a relation that may stand in a stock."""
    return relation_error(value) is None and 1 <= len(value[1]) <= MAX_ROWS


def stock_error(value):
    """None for a stock, otherwise what is wrong with the value."""
    if not isinstance(value, tuple) or not 1 <= len(value) <= MAX_STOCK:
        return (None, "stock")
    for index, relation in enumerate(value):
        if not is_stocked(relation):
            return (index, "relation")
    return None


def are_unknowns(value, unknowns):
    """Whether the value is a tuple of integers from 0 to unknowns - 1."""
    return isinstance(value, tuple) and all([is_between(item, 0, unknowns - 1) for item in value])


def are_places(value, many):
    """Whether the value is an ascending tuple of integers from 0 to many - 1."""
    return are_unknowns(value, many) and is_ascending(value)


def is_fact(stock, unknowns, value):
    """Whether the value is a fact of the stock about so many unknowns."""
    if not is_tuple_of(value, 2):
        return False
    index, places = value
    if not is_between(index, 0, len(stock) - 1):
        return False
    return are_unknowns(places, unknowns) and len(places) == stock[index][0]


def case_error(value):
    """None for a case, otherwise what is wrong with the value."""
    if not is_tuple_of(value, 3):
        return (None, "case")
    stock, unknowns, facts = value
    if stock_error(stock) is not None:
        return (None, "stock")
    if not is_between(unknowns, 1, MAX_UNKNOWNS):
        return (None, "unknowns")
    if not isinstance(facts, tuple) or len(facts) > MAX_FACTS:
        return (None, "facts")
    for index, fact in enumerate(facts):
        if not is_fact(stock, unknowns, fact):
            return (index, "fact")
    return None


def is_answer(case, value):
    """Whether the value is an answer of the case."""
    stock, unknowns, facts = case
    if not is_row(value, unknowns):
        return False
    for index, places in facts:
        if tuple([value[unknown] for unknown in places]) not in stock[index][1]:
            return False
    return True
