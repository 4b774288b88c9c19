"""Whether a clause follows from clauses, with steps to it, or with a row that shows that it does not."""

from sixkeepers.clauses import hold_all, holds_clause, is_within, stands_in_both
from sixkeepers.forms import is_between, is_row, is_tuple_of


class Book:
    """Steps as they are written one behind the other, each clause once."""

    def __init__(self, clauses):
        self.clauses = clauses
        self.entries = []
        self.reached = []
        self.spots = {}

    def write(self, entry, clause):
        """Writes a step to the clause if there is none; returns the index of that which there is."""
        if clause not in self.spots:
            self.spots[clause] = len(self.entries)
            self.entries.append(entry)
            self.reached.append(clause)
        return self.spots[clause]

    def write_joined(self, one, other, place):
        """Writes the step that joins the clauses of two steps at the place."""
        clause = joined_clause(self.reached[one], self.reached[other], place)
        return self.write(("joined", one, other, place), clause)


def without(places, place):
    """The places but the one."""
    return [other for other in places if other != place]


def joined_clause(one, other, place):
    """The clause of both clauses without the place in yes of the one and in no of the other."""
    yes = set(without(one[0], place) + list(other[0]))
    no = set(list(one[1]) + without(other[1], place))
    return (tuple(sorted(yes)), tuple(sorted(no)))


def is_refused(clause, row):
    """Whether the clause holds for no row with the values of this one, which has None where all is open."""
    return all([row[place] == 0 for place in clause[0]]) and all([row[place] == 1 for place in clause[1]])


def first_refused(clauses, row):
    """The index of the first of the clauses that is refused, None if there is none."""
    for index, clause in enumerate(clauses):
        if is_refused(clause, row):
            return index
    return None


def search(book, row):
    """Goes through all rows with the values of this one; returns a pair of which one item is None.

    The first item is the index of a step in the book whose clause holds for
    none of these rows, the second one a row for which all clauses hold. As the
    clause of each such step is refused by the values, no place comes to stand
    both in yes and in no when two of them are joined.
    """
    index = first_refused(book.clauses, row)
    if index is not None:
        return (book.write(("told", index), book.clauses[index]), None)
    if None not in row:
        return (None, row)
    place = row.index(None)
    zero, found = search(book, row[:place] + (0,) + row[place + 1:])
    if found is not None or place not in book.reached[zero][0]:
        return (zero, found)
    one, found = search(book, row[:place] + (1,) + row[place + 1:])
    if found is not None or place not in book.reached[one][1]:
        return (one, found)
    return (book.write_joined(zero, one, place), None)


def refusing(many, clause):
    """The row of what all rows for which the clause does not hold have, None elsewhere."""
    row = [None] * many
    for place in clause[0]:
        row[place] = 0
    for place in clause[1]:
        row[place] = 1
    return tuple(row)


def reach(many, clauses, clause):
    """Steps that reach the clause, or a row for which all of clauses hold, but the clause does not."""
    book = Book(clauses)
    last, row = search(book, refusing(many, clause))
    if row is not None:
        return ("row", row)
    return ("steps", tuple(book.entries[:last + 1]))


def step_clause(many, clauses, ahead, item):
    """The clause of the item behind steps with the clauses ahead, None if it is no step."""
    if is_tuple_of(item, 2) and item[0] == "told" and is_between(item[1], 0, len(clauses) - 1):
        return clauses[item[1]]
    if not is_tuple_of(item, 4) or item[0] != "joined" or not is_between(item[3], 0, many - 1):
        return None
    if not all([is_between(index, 0, len(ahead) - 1) for index in item[1:3]]):
        return None
    one, other, place = ahead[item[1]], ahead[item[2]], item[3]
    if place not in one[0] or place not in other[1]:
        return None
    made = joined_clause(one, other, place)
    return None if stands_in_both(made[0], made[1]) else made


def steps_reach(many, clauses, clause, value):
    """Whether the value is steps that reach the clause."""
    if not isinstance(value, tuple) or len(value) == 0:
        return False
    ahead = []
    for item in value:
        made = step_clause(many, clauses, ahead, item)
        if made is None:
            return False
        ahead.append(made)
    return is_within(ahead[-1], clause)


def is_witness(many, clauses, clause, value):
    """Whether the value is a row for which all of clauses hold, but the clause does not."""
    return is_row(value, many) and hold_all(clauses, value) and not holds_clause(clause, value)


def reaches(many, clauses, clause, value):
    """Whether the value shows that the clause follows, or that it does not."""
    if not is_tuple_of(value, 2):
        return False
    word, paper = value
    if word == "steps":
        return steps_reach(many, clauses, clause, paper)
    return word == "row" and is_witness(many, clauses, clause, paper)
