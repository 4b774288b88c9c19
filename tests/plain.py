"""What the document says, in the plainest way: by going through everything.

The tests hold the package against these. Nothing here is taken from it.
"""

import itertools
import random

# Values of all kinds that the document calls "any value".
ODD_VALUES = (
    None, True, False, 0, 1, -1, 10 ** 39, -(10 ** 39), "", "0", "1: 1", "relation", "a\nb",
    (), (0,), (1, 1), (True, ()), [], [0, 1], [2, [[0, 1]]], {}, {0: 1}, {"a": [()]},
    ((),), ((0, 1),), (2, [(0, 1)]), (None, None, None), ([], {}, ""),
    ((((((((((((),),),),),),),),),),),), [[[[[[[[[[[[]]]]]]]]]]]],
)

EXAMPLES = {
    "X": (2, ((0, 1), (1, 0))),
    "O": (2, ((0, 1), (1, 0), (1, 1))),
    "I": (2, ((0, 0), (0, 1), (1, 1))),
    "T": (3, ((0, 0, 1), (0, 1, 0), (1, 0, 0))),
}


def all_rows(many):
    return list(itertools.product((0, 1), repeat=many))


def all_operations(many):
    return all_rows(2 ** many)


def value_of(operation, values):
    index = 0
    for value in values:
        index = 2 * index + value
    return operation[index]


def thing_count(operation):
    return {2: 1, 4: 2, 8: 3}[len(operation)]


def laid(operation, rows):
    columns = [0] * len(rows[0])
    for row in rows:
        columns = [2 * column + item for column, item in zip(columns, row)]
    return tuple([operation[column] for column in columns])


def keeps(operation, relation):
    rows = set(relation[1])
    many = thing_count(operation)
    return all(laid(operation, some) in rows for some in itertools.product(relation[1], repeat=many))


def keeps_stock(operation, stock):
    return all(keeps(operation, relation) for relation in stock)


def hull(relation, operations):
    rows = set(relation[1])
    while True:
        more = {
            laid(operation, some)
            for operation in operations
            for some in itertools.product(rows, repeat=thing_count(operation))
        }
        if more <= rows:
            return (relation[0], tuple(sorted(rows)))
        rows |= more


def things(many):
    return [tuple(values[k] for values in all_rows(many)) for k in range(many)]


def clone(operations, many):
    """All operations of many things that are made by operations, by the words of the document."""
    return hull((2 ** many, tuple(sorted(things(many)))), operations)[1]


def all_relations(arity):
    rows = all_rows(arity)
    for many in range(len(rows) + 1):
        for some in itertools.combinations(rows, many):
            yield (arity, some)


def some_relation(chance, arity, least=0, most=32):
    rows = all_rows(arity)
    many = chance.randint(least, min(most, len(rows)))
    return (arity, tuple(sorted(chance.sample(rows, many))))


def some_stock(chance, arities=(1, 2, 3), most=3):
    return tuple(
        some_relation(chance, chance.choice(arities), 1, 12) for _ in range(chance.randint(1, most))
    )


def some_fact(chance, stock, unknowns):
    index = chance.randrange(len(stock))
    return (index, tuple(chance.randrange(unknowns) for _ in range(stock[index][0])))


def some_case(chance, stock, unknowns, most):
    return (stock, unknowns, tuple(some_fact(chance, stock, unknowns) for _ in range(chance.randint(0, most))))


def holds(stock, facts, row):
    return all(tuple(row[k] for k in places) in stock[index][1] for index, places in facts)


def answers(case):
    return [row for row in all_rows(case[1]) if holds(case[0], case[2], row)]


def gadget_relation(stock, gadget):
    unknowns, facts, shown = gadget
    rows = {tuple(row[k] for k in shown) for row in all_rows(unknowns) if holds(stock, facts, row)}
    return (len(shown), tuple(sorted(rows)))


def some_gadget(chance, stock, unknowns, facts, shown):
    found = {some_fact(chance, stock, unknowns) for _ in range(facts)}
    return (unknowns, tuple(sorted(found)), tuple(chance.randrange(unknowns) for _ in range(shown)))


def chance_of(number):
    return random.Random(number)


def replaced(value, chance):
    """The value with something otherwise at one place in it, however deep."""
    if isinstance(value, (tuple, list)) and len(value) > 0 and chance.random() < 0.9:
        at = chance.randrange(len(value))
        items = list(value)
        way = chance.random()
        if way < 0.1:
            del items[at]
        elif way < 0.2:
            items.insert(at, items[at])
        else:
            items[at] = replaced(items[at], chance)
        return type(value)(items)
    if isinstance(value, tuple) and chance.random() < 0.5:
        return list(value)
    if isinstance(value, int) and chance.random() < 0.7:
        return chance.choice((value + 1, value - 1, bool(value), str(value), 10 ** 39))
    return chance.choice(ODD_VALUES)


def same(one, other):
    """Whether both are alike, the kinds of all their parts, too."""
    if type(one) is not type(other):
        return False
    if isinstance(one, (tuple, list)):
        return len(one) == len(other) and all(same(a, b) for a, b in zip(one, other))
    return one == other
