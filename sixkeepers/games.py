"""Who wins the game from a beginning on, for each sort of stock by its own way.

chosen are the values of the beginning, for the first unknowns; the further
ones are chosen by "some" or by "all", as turns tell.
"""

from sixkeepers.closing import bits_of, row_number
from sixkeepers.halves import Halves
from sixkeepers.leads import does_lead, lead_masks, led_on, point_number
from sixkeepers.masks import answers_mask
from sixkeepers.states import Board, state_beside
from sixkeepers.sums import NEVER, case_sums, holds_sum


def further_alls(turns, chosen):
    """The unknowns behind the beginning that "all" chooses."""
    return [unknown for unknown in range(len(chosen), len(turns)) if turns[unknown] == "all"]


def all_winners(case, turns, many):
    """For each beginning of many values, of one more, and so on, by its number, whether it is won.

    By going through all rows; for each length there is a list of its own.
    """
    mask = answers_mask(case)
    levels = [[(mask >> number) & 1 == 1 for number in range(1 << case[1])]]
    for unknown in reversed(range(many, case[1])):
        halves = list(zip(levels[0][::2], levels[0][1::2]))
        if turns[unknown] == "some":
            levels = [[zero or one for zero, one in halves]] + levels
        else:
            levels = [[zero and one for zero, one in halves]] + levels
    return levels


def winners(case, turns, many):
    """For each beginning of many values, by its number, whether it is won; by going through all rows."""
    return all_winners(case, turns, many)[0]


def wins_by_rows(case, turns, chosen):
    """Whether the beginning is won, for a small case."""
    return winners(case, turns, len(chosen))[row_number(chosen)]


def wins_by_sums(case, turns, chosen):
    """Whether the beginning is won, for a stock that "odd" keeps.

    The one who chooses the head of a reduced sum chooses whether it holds; a
    sum without places behind the beginning holds already, or never will.
    """
    for one in case_sums(case):
        if one == NEVER[0]:
            return False
        head = one[0][-1]
        if head >= len(chosen):
            if turns[head] == "all":
                return False
        elif not holds_sum(one, chosen):
            return False
    return True


def fixed_leads(board, chosen):
    """The leads with the beginning: from each point that it bars to that which it has."""
    leads = lead_masks(board)
    for unknown, value in enumerate(chosen):
        barred = point_number(unknown, 1 - value)
        leads[barred] = leads[barred] | (1 << point_number(unknown, value))
    return led_on(leads)


def binding_point(leads, alls, unknown, value):
    """A point that takes the choice of this one, of an unknown of "all", from "all"; None if there is none.

    It is another one of "all" to which this one leads, or one of "some" ahead to which and from which it does.
    """
    point = point_number(unknown, value)
    for other in bits_of(leads[point]):
        if other // 2 in alls:
            if other != point:
                return other
        elif other // 2 < unknown and does_lead(leads, other, point):
            return other
    return None


def is_torn(leads, unknown):
    """Whether both values of the unknown lead to one another."""
    zero, one = point_number(unknown, 0), point_number(unknown, 1)
    return does_lead(leads, zero, one) and does_lead(leads, one, zero)


def wins_by_leads(case, turns, chosen):
    """Whether the beginning is won, for a stock that "most" keeps.

    It is lost just if some value that "all" chooses forces another one of its
    own, or was forced by what "some" had to choose ahead of it, or if "some"
    can choose neither value of an unknown.
    """
    leads = fixed_leads(Board(case), chosen)
    alls = further_alls(turns, chosen)
    if any([binding_point(leads, alls, unknown, value) is not None for unknown in alls for value in (0, 1)]):
        return False
    return not any([is_torn(leads, unknown) for unknown in range(case[1]) if unknown not in alls])


def wins_by_halves(case, turns, chosen, other):
    """Whether the beginning is won, for a stock that "both" (other 1) or "either" (other 0) keeps.

    "all" does best by choosing other everywhere, but perhaps for one unknown.
    """
    board = Board(case)
    alls = further_alls(turns, chosen)
    held = list(enumerate(chosen))
    if state_beside(board, held + [(unknown, other) for unknown in alls]).settle() is not None:
        return False
    for unknown in alls:
        rest = [(each, other) for each in alls if each != unknown]
        if Halves(board, held + rest, unknown).settle() is not None:
            return False
    return True


def wins(word, case, turns, chosen):
    """Whether the beginning is won; word is what makes the case's stock firm, None for a small case."""
    if word is None:
        return wins_by_rows(case, turns, chosen)
    if word == "odd":
        return wins_by_sums(case, turns, chosen)
    if word == "most":
        return wins_by_leads(case, turns, chosen)
    return wins_by_halves(case, turns, chosen, 1 if word == "both" else 0)
