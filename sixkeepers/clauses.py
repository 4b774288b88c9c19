"""Clauses: what holds if some place of one lot is yes, or some place of another one is no."""

from sixkeepers.closing import all_rows, row_number
from sixkeepers.forms import are_places, is_tuple_of
from sixkeepers.masks import all_mask, side_masks


def stands_in_both(one, other):
    """Whether some place stands in both of the tuples."""
    return any([place in other for place in one])


def clause_error(many, value):
    """None for a clause of many places, otherwise what is wrong with the value."""
    if not is_tuple_of(value, 2) or not are_places(value[0], many) or not are_places(value[1], many):
        return "clause"
    return "twice" if stands_in_both(value[0], value[1]) else None


def holds_clause(clause, row):
    """Whether the clause holds for the row."""
    yes, no = clause
    return any([row[place] == 1 for place in yes]) or any([row[place] == 0 for place in no])


def is_within(one, other):
    """Whether one clause is within the other one."""
    return all([place in other[0] for place in one[0]]) and all([place in other[1] for place in one[1]])


def hold_all(clauses, row):
    """Whether all of the clauses hold for the row."""
    return all([holds_clause(clause, row) for clause in clauses])


def said(arity, clauses):
    """The relation of all rows for which all of the clauses hold."""
    return (arity, tuple([row for row in all_rows(arity) if hold_all(clauses, row)]))


def all_barred(many):
    """All clauses of many places, each with the mask of the rows for which it does not hold."""
    found = {((), ()): all_mask(many)}
    for place, (zeros, ones) in enumerate(side_masks(many)):
        wider = {}
        for (yes, no), mask in list(found.items()):
            wider[(yes, no)] = mask
            wider[(yes + (place,), no)] = mask & zeros
            wider[(yes, no + (place,))] = mask & ones
        found = wider
    return found


def rows_mask(relation):
    """The mask of the rows of the relation."""
    return sum([1 << row_number(row) for row in relation[1]])


def shorter(clause):
    """The clauses that have one place less."""
    yes, no = clause
    less_yes = [(yes[:at] + yes[at + 1:], no) for at in range(len(yes))]
    less_no = [(yes, no[:at] + no[at + 1:]) for at in range(len(no))]
    return less_yes + less_no


def prime_masks(relation):
    """The prime clauses, each with the mask of the rows for which it does not hold."""
    rows = rows_mask(relation)
    holding = {clause: mask for clause, mask in all_barred(relation[0]).items() if mask & rows == 0}
    found = {}
    for clause, mask in holding.items():
        # What holds goes on to hold with more places, so one place less is enough to look at.
        if not any([less in holding for less in shorter(clause)]):
            found[clause] = mask
    return found


def primes(relation):
    """All prime clauses of the relation, ascending."""
    return tuple(sorted(prime_masks(relation)))


def has_shape(clause, word):
    """Whether the clause is of the shape that the word tells, one of "any", "both", "either" and "most"."""
    yes, no = clause
    if word == "both":
        return len(yes) <= 1
    if word == "either":
        return len(no) <= 1
    return word == "any" or len(yes) + len(no) <= 2


def form(relation, word):
    """Those prime clauses of the relation that have the shape, ascending."""
    return tuple([clause for clause in primes(relation) if has_shape(clause, word)])


def says(relation, value):
    """Whether the value is a tuple of clauses that say the relation."""
    arity = relation[0]
    if not isinstance(value, tuple) or not all([clause_error(arity, clause) is None for clause in value]):
        return False
    return said(arity, value) == relation


def wider_covers(covers, masks, wanted):
    """What is barred with one clause more that bars the first row that is not barred, with the clauses."""
    found = {}
    for mask, chosen in covers.items():
        rest = wanted ^ mask
        lowest = rest & -rest
        for clause, barred in masks.items():
            if barred & lowest != 0:
                found[mask | barred] = chosen + (clause,)
    return found


def fewest(relation):
    """As few clauses as can say the relation, ascending."""
    masks = prime_masks(relation)
    wanted = all_mask(relation[0]) ^ rows_mask(relation)
    covers = {0: ()}
    while wanted not in covers:
        covers = wider_covers(covers, masks, wanted)
    return tuple(sorted(covers[wanted]))


def placed_clause(clause, places):
    """The clause with the unknown at each place in its stead, None if one stands in yes and in no."""
    yes, no = [tuple(sorted({places[place] for place in part})) for part in clause]
    return None if stands_in_both(yes, no) else (yes, no)


def case_clauses(case, word):
    """The clauses of the shape that the facts of the case make, ascending."""
    forms = [form(relation, word) for relation in case[0]]
    placed = [placed_clause(clause, places) for index, places in case[2] for clause in forms[index]]
    return tuple(sorted({clause for clause in placed if clause is not None}))
