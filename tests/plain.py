"""What the document says, in the plainest way: by going through everything.

The tests hold the package against these. Nothing here is taken from it.
"""

import itertools
import random

# Values of all kinds that the document calls "any value".
ODD_VALUES = (
    None, True, False, 0, 1, -1, 10 ** 39, -(10 ** 39), "", "0", "1: 1", "relation", "a\nb",
    (), (0,), (1, 1), (True, ()), [], [0, 1], [2, [[0, 1]]], {}, {0: 1}, {"a": [()]},
    ((),), ((0, 1),), (2, [(0, 1)]), (None, None, None), ([], {}, ""),
    ((((((((((((),),),),),),),),),),),), [[[[[[[[[[[[]]]]]]]]]]]],
)

EXAMPLES = {
    "X": (2, ((0, 1), (1, 0))),
    "O": (2, ((0, 1), (1, 0), (1, 1))),
    "I": (2, ((0, 0), (0, 1), (1, 1))),
    "T": (3, ((0, 0, 1), (0, 1, 0), (1, 0, 0))),
}


def all_rows(many):
    return list(itertools.product((0, 1), repeat=many))


def all_operations(many):
    return all_rows(2 ** many)


def value_of(operation, values):
    index = 0
    for value in values:
        index = 2 * index + value
    return operation[index]


def thing_count(operation):
    return {2: 1, 4: 2, 8: 3}[len(operation)]


def laid(operation, rows):
    columns = [0] * len(rows[0])
    for row in rows:
        columns = [2 * column + item for column, item in zip(columns, row)]
    return tuple([operation[column] for column in columns])


def keeps(operation, relation):
    rows = set(relation[1])
    many = thing_count(operation)
    return all(laid(operation, some) in rows for some in itertools.product(relation[1], repeat=many))


def keeps_stock(operation, stock):
    return all(keeps(operation, relation) for relation in stock)


def hull(relation, operations):
    rows = set(relation[1])
    while True:
        more = {
            laid(operation, some)
            for operation in operations
            for some in itertools.product(rows, repeat=thing_count(operation))
        }
        if more <= rows:
            return (relation[0], tuple(sorted(rows)))
        rows |= more


def things(many):
    return [tuple(values[k] for values in all_rows(many)) for k in range(many)]


def clone(operations, many):
    """All operations of many things that are made by operations, by the words of the document."""
    return hull((2 ** many, tuple(sorted(things(many)))), operations)[1]


def all_relations(arity):
    rows = all_rows(arity)
    for many in range(len(rows) + 1):
        for some in itertools.combinations(rows, many):
            yield (arity, some)


def some_relation(chance, arity, least=0, most=32):
    rows = all_rows(arity)
    many = chance.randint(least, min(most, len(rows)))
    return (arity, tuple(sorted(chance.sample(rows, many))))


def some_stock(chance, arities=(1, 2, 3), most=3):
    return tuple(
        some_relation(chance, chance.choice(arities), 1, 12) for _ in range(chance.randint(1, most))
    )


def some_fact(chance, stock, unknowns):
    index = chance.randrange(len(stock))
    return (index, tuple(chance.randrange(unknowns) for _ in range(stock[index][0])))


def some_case(chance, stock, unknowns, most):
    return (stock, unknowns, tuple(some_fact(chance, stock, unknowns) for _ in range(chance.randint(0, most))))


def holds(stock, facts, row):
    return all(tuple(row[k] for k in places) in stock[index][1] for index, places in facts)


def answers(case):
    return [row for row in all_rows(case[1]) if holds(case[0], case[2], row)]


def gadget_relation(stock, gadget):
    unknowns, facts, shown = gadget
    rows = {tuple(row[k] for k in shown) for row in all_rows(unknowns) if holds(stock, facts, row)}
    return (len(shown), tuple(sorted(rows)))


def some_gadget(chance, stock, unknowns, facts, shown):
    found = {some_fact(chance, stock, unknowns) for _ in range(facts)}
    return (unknowns, tuple(sorted(found)), tuple(chance.randrange(unknowns) for _ in range(shown)))


def chance_of(number):
    return random.Random(number)


def replaced(value, chance):
    """The value with something otherwise at one place in it, however deep."""
    if isinstance(value, (tuple, list)) and len(value) > 0 and chance.random() < 0.9:
        at = chance.randrange(len(value))
        items = list(value)
        way = chance.random()
        if way < 0.1:
            del items[at]
        elif way < 0.2:
            items.insert(at, items[at])
        else:
            items[at] = replaced(items[at], chance)
        return type(value)(items)
    if isinstance(value, tuple) and chance.random() < 0.5:
        return list(value)
    if isinstance(value, int) and chance.random() < 0.7:
        return chance.choice((value + 1, value - 1, bool(value), str(value), 10 ** 39))
    return chance.choice(ODD_VALUES)


def same(one, other):
    """Whether both are alike, the kinds of all their parts, too."""
    if type(one) is not type(other):
        return False
    if isinstance(one, (tuple, list)):
        return len(one) == len(other) and all(same(a, b) for a, b in zip(one, other))
    return one == other


SIX = {
    "low": (0, 0), "high": (1, 1), "both": (0, 0, 0, 1), "either": (0, 1, 1, 1), "most": (0, 0, 0, 1, 0, 1, 1, 1),
    "odd": (0, 1, 1, 0, 1, 0, 0, 1),
}
FIRM = ("both", "either", "most", "odd")

# Kept by none of the six, by "low" alone, by "high" alone.
NO_WAY = (EXAMPLES["T"],)
LOW_ONLY = ((3, ((0, 0, 0), (0, 1, 1), (1, 0, 1))), (2, ((0, 0), (0, 1), (1, 0))))
HIGH_ONLY = ((3, ((0, 1, 0), (1, 0, 0), (1, 1, 1))), (2, ((0, 1), (1, 0), (1, 1))))


def rows_but(arity, *out):
    return (arity, tuple(row for row in all_rows(arity) if row not in out))


def rows_of_sum(arity, value):
    return (arity, tuple(row for row in all_rows(arity) if sum(row) % 2 == value))


# Stocks each of which just the one keeper keeps, and by whose facts little is told at first.
TYPICAL = {
    "both": (rows_but(3, (1, 1, 0)), rows_but(2, (1, 0)), rows_but(3, (1, 1, 1)), rows_but(2, (1, 1)), (1, ((1,),))),
    "either": (rows_but(3, (0, 0, 1)), rows_but(2, (1, 0)), rows_but(3, (0, 0, 0)), rows_but(2, (0, 0)), (1, ((0,),))),
    "most": (rows_but(2, (0, 0)), rows_but(2, (0, 1)), rows_but(2, (1, 1)), rows_but(2, (1, 0))),
    "odd": (rows_of_sum(3, 0), rows_of_sum(3, 1), rows_of_sum(4, 0), rows_of_sum(4, 1), rows_of_sum(2, 1)),
}


def kept_stock(chance, words, arities=(1, 2, 2, 3, 3, 4, 5), most=4):
    """A stock that the keepers of these names keep (and perhaps further ones)."""
    if len(words) == 1 and words[0] in TYPICAL and chance.random() < 0.4:
        return TYPICAL[words[0]]
    stock = []
    many = chance.randint(1, most)
    while len(stock) < many:
        start = some_relation(chance, chance.choice(arities), 1, chance.choice((1, 2, 3, 4, 6)))
        relation = hull(start, tuple(SIX[word] for word in words))
        if len(relation[1]) <= 12:
            stock.append(relation)
    return tuple(stock)


def sparse_stock(chance, words, arities=(2, 3, 3, 4)):
    """A stock that the keepers of these names keep, in which rows are far from one another: so answers are, too."""
    stock = []
    while len(stock) < 2:
        arity = chance.choice(arities)
        rows = [row for row in all_rows(arity) if sum(row) % 2 == len(stock)]
        start = (arity, tuple(sorted(chance.sample(rows, min(len(rows), chance.randint(2, 3))))))
        relation = hull(start, tuple(SIX[word] for word in words))
        if len(relation[1]) <= 12 and (len(islands_among(relation[1])) > 1 or chance.random() < 0.05):
            stock.append(relation)
    return tuple(stock)


def all_subsets(numbers):
    """All ascending tuples of some of the numbers, ascending."""
    return sorted(some for many in range(len(numbers) + 1) for some in itertools.combinations(numbers, many))


def all_clauses(many):
    found = []
    for signs in itertools.product((None, 0, 1), repeat=many):
        found.append(tuple(tuple(k for k in range(many) if signs[k] == sign) for sign in (1, 0)))
    return sorted(found)


def holds_clause(clause, row):
    return any(row[k] == 1 for k in clause[0]) or any(row[k] == 0 for k in clause[1])


def within(one, other):
    return set(one[0]) <= set(other[0]) and set(one[1]) <= set(other[1])


def clauses_rows(many, clauses):
    return tuple(row for row in all_rows(many) if all(holds_clause(clause, row) for clause in clauses))


def some_clause(chance, many, most=3):
    places = chance.sample(range(many), min(many, chance.randint(0 if chance.random() < 0.02 else 1, most)))
    yes = {place for place in places if chance.random() < 0.5}
    return (tuple(sorted(yes)), tuple(sorted(set(places) - yes)))


def all_sums(many):
    return [(places, value) for places in all_subsets(range(many)) for value in (0, 1)]


def some_sum(chance, many, most):
    return (tuple(sorted(chance.sample(range(many), chance.randint(0, min(many, most))))), chance.randint(0, 1))


def holds_sum(one, row):
    return sum(row[k] for k in one[0]) % 2 == one[1]


def sums_rows(many, sums):
    return tuple(row for row in all_rows(many) if all(holds_sum(one, row) for one in sums))


def added(sums):
    """All of the sums, added one by one."""
    places, value = set(), 0
    for one in sums:
        places ^= set(one[0])
        value ^= one[1]
    return (tuple(sorted(places)), value)


def is_reduced(sums):
    if sums == (((), 1),):
        return True
    if not all(one[0] for one in sums):
        return False
    heads = [max(one[0]) for one in sums]
    if heads != sorted(set(heads)):
        return False
    return all(head not in one[0] for head, own in zip(heads, sums) for one in sums if one is not own)


def agreeing(case, fact, known):
    index, places = case[2][fact]
    found = []
    for row in case[0][index][1]:
        values = {}
        for unknown, item in list(known) + list(zip(places, row)):
            values.setdefault(unknown, set()).add(item)
        if all(len(items) == 1 for items in values.values()):
            found.append(row)
    return tuple(found)


def tells(case, fact, known):
    """All pairs that the fact tells beside what is known."""
    rows = agreeing(case, fact, known)
    places = case[2][fact][1]
    found = []
    for unknown in sorted(set(places) - {other for other, _ in known}):
        items = {row[at] for row in rows for at in range(len(places)) if places[at] == unknown}
        if len(items) == 1:
            found.append((unknown, items.pop()))
    return found


def follow(case, known, chance):
    """What is known in the end, by facts in any order, None if one clashes."""
    known = list(known)
    while True:
        facts = list(range(len(case[2])))
        chance.shuffle(facts)
        if any(not agreeing(case, fact, known) for fact in facts):
            return None
        told = [pair for fact in facts for pair in tells(case, fact, known)]
        if not told:
            return tuple(sorted(known))
        known.append(chance.choice(told))


def is_chain(case, known, value):
    steps, end = value
    known = list(known)
    for fact, unknown, item in steps:
        if (unknown, item) not in tells(case, fact, known):
            return False
        known.append((unknown, item))
    if end is None:
        return all(agreeing(case, fact, known) and not tells(case, fact, known) for fact in range(len(case[2])))
    return not agreeing(case, end, known)


def is_refutation(case, value, known=()):
    """By the words of the document, for values of the right form."""
    if value[0] == "clash":
        return value[2] is not None and is_chain(case, known, value[1:])
    if value[0] == "split":
        unknown = value[1]
        if unknown in [other for other, _ in known]:
            return False
        return all(is_refutation(case, value[2 + item], tuple(known) + ((unknown, item),)) for item in (0, 1))
    for fact, one in value[1]:
        places = case[2][fact][1]
        for row in agreeing(case, fact, ()):
            values = dict(zip(places, row))
            if not set(one[0]) <= set(places) or sum(values[unknown] for unknown in one[0]) % 2 != one[1]:
                return False
    return added([one for _, one in value[1]]) == ((), 1)


def lot_case(case, lot):
    return case[:2] + (tuple(case[2][number] for number in lot),)


def seen(rows, places):
    return {tuple(row[k] for k in places) for row in rows}


class Blocks:
    """A great case made of small ones that have no unknown in common, so that its answers can be told.

    case is the great one; parts are pairs of the unknowns of a small one, ascending, and its answers.
    """

    def __init__(self, chance, stock, sizes, most):
        unknowns = list(range(sum(sizes)))
        chance.shuffle(unknowns)
        facts = []
        lots = []
        for size in sizes:
            lots.append(sorted(unknowns[:size]))
            del unknowns[:size]
            for index, places in some_case(chance, stock, size, most)[2]:
                facts.append((index, tuple(lots[-1][k] for k in places)))
        chance.shuffle(facts)
        self.case = (stock, sum(sizes), tuple(facts))
        self.parts = [(lot, answers((stock, len(lot), self.within(lot)))) for lot in lots]

    def within(self, lot):
        """The facts of the lot, with its unknowns counted from 0 on."""
        return tuple((index, tuple(lot.index(k) for k in places)) for index, places in self.case[2] if places[0] in lot)

    def numbers(self, lot):
        """The numbers of the facts of the lot."""
        return [number for number, fact in enumerate(self.case[2]) if fact[1][0] in lot]

    def has_answers(self):
        return all(rows for _, rows in self.parts)

    def seen(self, places):
        """The rows that answers have at the places."""
        if not self.has_answers():
            return set()
        found = [{}]
        for lot, rows in self.parts:
            here = [k for k in lot if k in places]
            shown = seen(rows, [lot.index(k) for k in here])
            found = [{**values, **dict(zip(here, row))} for values in found for row in shown]
        return {tuple(values[k] for k in places) for values in found}


class Played:
    """All games of a small case, played plainly; wins tells for each beginning whether it is won."""

    def __init__(self, case, turns):
        found = set(answers(case))
        self.wins = {row: row in found for row in all_rows(case[1])}
        for many in range(case[1] - 1, -1, -1):
            for begin in all_rows(many):
                ends = [self.wins[begin + (value,)] for value in (0, 1)]
                self.wins[begin] = any(ends) if turns[many] == "some" else all(ends)

    def good(self, begin, word):
        return tuple(value for value in (0, 1) if self.wins[begin + (value,)] == (word == "some"))


def some_turns(chance, many, share=0.5):
    return tuple("all" if chance.random() < share else "some" for _ in range(many))


def is_int(value, low, high):
    return type(value) is int and low <= value <= high


def is_tuple(value, many):
    return type(value) is tuple and len(value) == many


def is_number_of_fact(case, value):
    return is_int(value, 0, len(case[2]) - 1)


def is_row(value, many):
    return is_tuple(value, many) and all(is_int(item, 0, 1) for item in value)


def is_sum(many, value):
    if not is_tuple(value, 2) or type(value[0]) is not tuple or not is_int(value[1], 0, 1):
        return False
    places = value[0]
    return all(is_int(place, 0, many - 1) for place in places) and list(places) == sorted(set(places))


def is_point(case, value):
    return is_tuple(value, 2) and is_int(value[0], 0, case[1] - 1) and is_int(value[1], 0, 1)


def leads_to(case, one, other):
    """Whether, by some fact, the point one leads to the point other."""
    for fact, (_, places) in enumerate(case[2]):
        if one[0] in places and other[0] in places:
            at = places.index(other[0])
            if all(row[at] == other[1] for row in agreeing(case, fact, [one])):
                return True
    return False


def is_tree(case, turns, begin, value):
    if type(value) is int:
        return is_number_of_fact(case, value) and not agreeing(case, value, list(enumerate(begin)))
    if len(begin) == case[1] or not is_tuple(value, 3) or value[0] != turns[len(begin)]:
        return False
    if value[0] == "all":
        return is_int(value[1], 0, 1) and is_tree(case, turns, begin + (value[1],), value[2])
    return is_tree(case, turns, begin + (0,), value[1]) and is_tree(case, turns, begin + (1,), value[2])


def is_losing_walk(case, turns, points):
    if type(points) is not tuple or len(points) < 2 or not all(is_point(case, point) for point in points):
        return False
    if not all(leads_to(case, one, other) for one, other in zip(points, points[1:])):
        return False
    somes = {point for point in points if turns[point[0]] == "some"}
    ends_of_all = turns[points[0][0]] == turns[points[-1][0]] == "all"
    if points[0] != points[-1]:
        return ends_of_all
    if {unknown for unknown, value in somes if value == 0} & {unknown for unknown, value in somes if value == 1}:
        return True
    return ends_of_all and any(unknown < points[0][0] for unknown, _ in somes)


def is_losing_sums(case, turns, items):
    if type(items) is not tuple:
        return False
    made = []
    for item in items:
        if not is_tuple(item, 2) or not is_number_of_fact(case, item[0]):
            return False
        index, places = case[2][item[0]]
        arity, rows = case[0][index]
        if not is_sum(arity, item[1]) or not all(holds_sum(item[1], row) for row in rows):
            return False
        # One by one, so that an unknown that comes an even number of times goes out.
        made += [((places[place],), 0) for place in item[1][0]] + [((), item[1][1])]
    total = added(made)
    return total == ((), 1) or (len(total[0]) > 0 and turns[total[0][-1]] == "all")


def is_losing_halves(case, turns, other, unknown, steps, clash):
    alls = [at for at, word in enumerate(turns) if word == "all"]
    if not is_int(other, 0, 1) or type(steps) is not tuple:
        return False
    if unknown is not None and not (is_int(unknown, 0, case[1] - 1) and unknown in alls):
        return False
    held = {at: other for at in alls if at != unknown}
    halves = [dict(held), dict(held)]
    if unknown is not None:
        halves[0][unknown], halves[1][unknown] = 0, 1
    for step in steps:
        if not is_tuple(step, 4) or not is_int(step[0], 0, 1) or not is_number_of_fact(case, step[1]):
            return False
        half, fact, target, value = step
        places = case[2][fact][1]
        if not is_int(target, 0, case[1] - 1) or not is_int(value, 0, 1) or target not in places:
            return False
        rows = agreeing(case, fact, halves[half].items())
        if not rows or not all(row[places.index(target)] == value for row in rows):
            return False
        halves[half][target] = value
        if unknown is not None and target < unknown:
            halves[1 - half][target] = value
    if not is_tuple(clash, 2) or not is_int(clash[0], 0, 1) or not is_number_of_fact(case, clash[1]):
        return False
    return not agreeing(case, clash[1], halves[clash[0]].items())


def is_lost_paper(case, turns, value):
    """By the words of the document, for any value."""
    if type(value) is not tuple or len(value) < 2:
        return False
    if value[0] == "tree" and len(value) == 2:
        return is_tree(case, turns, (), value[1])
    if value[0] == "walk" and len(value) == 2:
        return is_losing_walk(case, turns, value[1])
    if value[0] == "sums" and len(value) == 2:
        return is_losing_sums(case, turns, value[1])
    return value[0] == "halves" and len(value) == 5 and is_losing_halves(case, turns, *value[1:])


def changed(row, unknown):
    return row[:unknown] + (1 - row[unknown],) + row[unknown + 1:]


def steps_from(found, row):
    """For each answer that is together with the row: over how few changes."""
    far = {row: 0}
    queue = [row]
    for one in queue:
        for unknown in range(len(row)):
            other = changed(one, unknown)
            if other in found and other not in far:
                far[other] = far[one] + 1
                queue.append(other)
    return far


def islands(case):
    """All islands of a small case, ascending."""
    return islands_among(answers(case))


def islands_among(rows):
    """The islands of the rows, ascending."""
    rest = set(rows)
    found = []
    while rest:
        island = set(steps_from(rest, min(rest)))
        rest -= island
        found.append(tuple(sorted(island)))
    return tuple(sorted(found))


def is_walk(case, value):
    if type(value) is not tuple or len(value) == 0:
        return False
    if not all(is_row(row, case[1]) and holds(case[0], case[2], row) for row in value):
        return False
    return all(sum(a != b for a, b in zip(one, other)) == 1 for one, other in zip(value, value[1:]))


def fact_sums(case):
    """The sums that hold for all rows of a fact's relation, with the unknowns in the places' stead."""
    found = []
    for index, places in case[2]:
        arity, rows = case[0][index]
        for one in all_sums(arity):
            if all(holds_sum(one, row) for row in rows):
                found.append(added([((places[place],), 0) for place in one[0]] + [((), one[1])]))
    return sorted(set(found))


def makes(sums, wanted):
    """Whether some of the sums, however many there are, make the wanted one."""
    basis = []
    for one in list(sums) + [wanted]:
        rest = one
        for head, other in basis:
            if head in rest[0] or (head is None and rest[0] == () and rest[1] == 1):
                rest = added([rest, other])
        if rest == ((), 0):
            if one is wanted:
                return True
            continue
        if one is wanted:
            return False
        basis.append((rest[0][-1] if rest[0] else None, rest))
    return wanted == ((), 0)


def is_going(case, row, value, item):
    """Whether the value is a walk from the row on that changes just this item, to where it can be changed no more."""
    if not is_walk(case, value) or value[0] != row:
        return False
    for one, other in zip(value, value[1:]):
        if [one[k] for k in range(case[1]) if one[k] != other[k]] != [item]:
            return False
    last = value[-1]
    return not any(last[k] == item and holds(case[0], case[2], changed(last, k)) for k in range(case[1]))


def is_ring(case, one, other, steps):
    if type(steps) is not tuple or len(steps) < 2:
        return False
    for step in steps:
        if not is_tuple(step, 3) or not is_point(case, step[:2]) or not is_number_of_fact(case, step[2]):
            return False
        if one[step[0]] == step[1] or other[step[0]] != step[1]:
            return False
    for (unknown, value, fact), (further, its, _) in zip(steps, steps[1:] + steps[:1]):
        places = case[2][fact][1]
        if unknown == further or unknown not in places or further not in places:
            return False
        for row in agreeing(case, fact, []):
            if row[places.index(unknown)] == value and row[places.index(further)] != its:
                return False
    return True


def is_island_parting(case, one, other, rows):
    if type(rows) is not tuple:
        return False
    if not all(is_row(row, case[1]) and holds(case[0], case[2], row) for row in rows):
        return False
    if list(rows) != sorted(set(rows)) or one not in rows or other in rows:
        return False
    beside = [changed(row, k) for row in rows for k in range(case[1])]
    return all(row in rows or not holds(case[0], case[2], row) for row in beside)


def is_apart(case, one, other, value):
    """By the words of the document, for any value."""
    if type(value) is not tuple or len(value) < 2:
        return False
    if value[0] == "island" and len(value) == 2:
        return is_island_parting(case, one, other, value[1])
    if value[0] == "ring" and len(value) == 2:
        return is_ring(case, one, other, value[1])
    if value[0] == "sum" and len(value) == 2:
        if not is_sum(case[1], value[1]) or all(one[k] == other[k] for k in value[1][0]):
            return False
        return makes(fact_sums(case), value[1])
    if value[0] not in ("down", "up") or len(value) != 3:
        return False
    if not keeps_stock(SIX["both" if value[0] == "down" else "either"], case[0]):
        return False
    item = 1 if value[0] == "down" else 0
    if not is_going(case, one, value[1], item) or not is_going(case, other, value[2], item):
        return False
    return value[1][-1] != value[2][-1]
