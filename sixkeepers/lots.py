"""Lots of a case's facts, and which of them leave an answer with values that are held.

Here word is the name by which solvers makes a solver for cases of the stock,
and held are pairs of an unknown and a value.
"""

from sixkeepers.closing import bits_of
from sixkeepers.forms import is_answer
from sixkeepers.solvers import made_solver


def full_lot(case):
    """The lot of all facts."""
    return tuple(range(len(case[2])))


def lot_case(case, lot):
    """The case of the lot."""
    stock, unknowns, facts = case
    return (stock, unknowns, tuple([facts[number] for number in lot]))


def without(lot, number):
    """The lot without one of its numbers."""
    return tuple([other for other in lot if other != number])


def rest_of(case, lot):
    """The lot of all facts that are not of the lot."""
    return tuple([number for number in range(len(case[2])) if number not in lot])


def lot_solver(word, case, lot):
    """The solver for the case of the lot."""
    return made_solver(word, lot_case(case, lot))


def lets(word, case, lot, held):
    """Whether the case of the lot has an answer with the held values."""
    return lot_solver(word, case, lot).can(held)


def shrunk(word, case, held):
    """A lot that lets no answer, while each other part of it does; all facts let none."""
    lot = full_lot(case)
    for number in full_lot(case):
        less = without(lot, number)
        if not lets(word, case, less, held):
            lot = less
    return lot


def bars_barely(word, case, lot, held):
    """Whether the lot lets no answer, while each other part of it does."""
    # The fewer facts, the more answers: so one fact less is enough to look at.
    if lets(word, case, lot, held):
        return False
    return all([lets(word, case, without(lot, number), held) for number in lot])


def held_facts(case, row):
    """The facts that let the row, as the bits of one number."""
    return sum([1 << fact for fact in full_lot(case) if is_answer(lot_case(case, (fact,)), row)])


def is_inside(number, others):
    """Whether all bits of the number are those of one of the others."""
    return any([number & ~other == 0 for other in others])


def letting(word, case, held):
    """For each lot, told by its facts as bits, whether it lets an answer with the held values."""
    good = []
    seen = []
    for number in range(1 << len(case[2])):
        lot = bits_of(number)
        fine = all([good[number ^ (1 << fact)] for fact in lot])
        # An answer that was found for fewer facts often is one for these, too.
        if fine and not is_inside(number, seen):
            row = lot_solver(word, case, lot).row(held, 0)
            fine = row is not None
            if fine:
                seen.append(held_facts(case, row))
        good.append(fine)
    return good


def lot_number(lot):
    """The number whose bits tell the facts of the lot."""
    return sum([1 << fact for fact in lot])


def least_barring(good):
    """The lots that let no answer, while each other part of them does, ascending."""
    found = [bits_of(number) for number in range(len(good)) if not good[number]]
    return tuple(sorted([lot for lot in found if all([good[lot_number(without(lot, fact))] for fact in lot])]))


def least_missing(good):
    """The lots without which the rest lets an answer, but with any fact of them more lets none, ascending."""
    full = len(good) - 1
    found = [(bits_of(number), full ^ number) for number in range(len(good)) if good[full ^ number]]
    return tuple(sorted([lot for lot, rest in found if not any([good[rest | (1 << fact)] for fact in lot])]))
