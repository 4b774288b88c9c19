"""The closest guesses that a shape can say of rows that are told.

The candidates are what the guess is taken from: clauses, or for the shape
"odd" all sums, each as far as it holds for all rows that are told.
"""

from sixkeepers.clauses import has_shape, holds_clause, shorter
from sixkeepers.parity import numbered_sum
from sixkeepers.sums import holds_sum, reduced


def narrow_clauses(many, width):
    """All clauses of many places that have at most width of them."""
    found = [((), ())]
    for place in range(many):
        narrow = [(yes, no) for yes, no in found if len(yes) + len(no) < width]
        found = found + [(yes + (place,), no) for yes, no in narrow] + [(yes, no + (place,)) for yes, no in narrow]
    return found


def all_candidates(many, shape, width):
    """All candidates behind no rows."""
    if shape == "odd":
        # The numbers of so many bits are those of all sums of so many places.
        return [numbered_sum(number) for number in range(1 << (many + 1))]
    return [clause for clause in narrow_clauses(many, width) if has_shape(clause, shape)]


def holds(shape, candidate, row):
    """Whether the candidate holds for the row."""
    return holds_sum(candidate, row) if shape == "odd" else holds_clause(candidate, row)


def all_hold(shape, candidates, row):
    """Whether all of the candidates hold for the row."""
    return all([holds(shape, candidate, row) for candidate in candidates])


def holding(shape, candidates, row):
    """Those of the candidates that hold for the row."""
    return [candidate for candidate in candidates if holds(shape, candidate, row)]


def least_clauses(clauses):
    """Those of the clauses within which there is no other one, ascending.

    With a clause, each clause that it is within is among them, too, as far as
    the shape and the width let it; so one place less is enough to look at.
    """
    known = {clause: True for clause in clauses}
    return tuple(sorted([clause for clause in clauses if not any([less in known for less in shorter(clause)])]))


def closest_guess(shape, candidates):
    """The guess that the candidates make."""
    return reduced(candidates) if shape == "odd" else least_clauses(candidates)


def left_over(shape, candidates):
    """How many candidates are left; of sums, which make one another, only how many make all of them."""
    many = len(candidates)
    return many.bit_length() - 1 if shape == "odd" else many
