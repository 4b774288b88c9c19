"""Who wins the game from a beginning on, for each sort of stock by its own way.

chosen are the values of the beginning, for the first unknowns; the further
ones are chosen by "some" or by "all", as turns tell.
"""

from sixkeepers.closing import bits_of, row_number
from sixkeepers.masks import answers_mask
from sixkeepers.states import Board, state_beside
from sixkeepers.sums import NEVER, case_sums, holds_sum


def further_alls(turns, chosen):
    """The unknowns behind the beginning that "all" chooses."""
    return [unknown for unknown in range(len(chosen), len(turns)) if turns[unknown] == "all"]


def winners(case, turns, many):
    """For each beginning of many values, by its number, whether it is won; by going through all rows."""
    mask = answers_mask(case)
    won = [(mask >> number) & 1 == 1 for number in range(1 << case[1])]
    for unknown in reversed(range(many, case[1])):
        halves = list(zip(won[::2], won[1::2]))
        if turns[unknown] == "some":
            won = [zero or one for zero, one in halves]
        else:
            won = [zero and one for zero, one in halves]
    return won


def wins_by_rows(case, turns, chosen):
    """Whether the beginning is won, for a small case."""
    return winners(case, turns, len(chosen))[row_number(chosen)]


def wins_by_sums(case, turns, chosen):
    """Whether the beginning is won, for a stock that "odd" keeps.

    The one who chooses the head of a reduced sum chooses whether it holds; a
    sum without places behind the beginning holds already, or never will.
    """
    for one in case_sums(case):
        if one == NEVER[0]:
            return False
        head = one[0][-1]
        if head >= len(chosen):
            if turns[head] == "all":
                return False
        elif not holds_sum(one, chosen):
            return False
    return True


def point_number(unknown, value):
    """The number of the point that the unknown has the value."""
    return 2 * unknown + value


def lead_masks(board):
    """For each point, by its number, those to which some fact leads from it, as the bits of one number."""
    leads = [0] * (2 * len(board.near))
    for sides, start in zip(board.sides, board.starts):
        for unknown, pair in sides.items():
            for value in (0, 1):
                found = led_points(sides, start & pair[value])
                leads[point_number(unknown, value)] = leads[point_number(unknown, value)] | found
    return leads


def led_points(sides, rows):
    """The points that all of the rows of a fact have, as the bits of one number."""
    found = 0
    for unknown, pair in sides.items():
        for value in (0, 1):
            if rows & pair[1 - value] == 0:
                found = found | (1 << point_number(unknown, value))
    return found


def led_on(leads):
    """For each point those to which others lead from it, over however many."""
    for middle in range(len(leads)):
        leads = [mask | leads[middle] if (mask >> middle) & 1 == 1 else mask for mask in leads]
    return leads


def fixed_leads(board, chosen):
    """The leads with the beginning: from each point that it bars to that which it has."""
    leads = lead_masks(board)
    for unknown, value in enumerate(chosen):
        barred = point_number(unknown, 1 - value)
        leads[barred] = leads[barred] | (1 << point_number(unknown, value))
    return led_on(leads)


def binds_all(leads, alls, unknown, value):
    """Whether the point, of an unknown of "all", leads to another one of "all", or to and from one of "some" ahead."""
    point = point_number(unknown, value)
    for other in bits_of(leads[point]):
        if other // 2 in alls:
            if other != point:
                return True
        elif other // 2 < unknown and (leads[other] >> point) & 1 == 1:
            return True
    return False


def is_torn(leads, unknown):
    """Whether both values of the unknown lead to one another."""
    zero, one = point_number(unknown, 0), point_number(unknown, 1)
    return (leads[zero] >> one) & 1 == 1 and (leads[one] >> zero) & 1 == 1


def wins_by_leads(case, turns, chosen):
    """Whether the beginning is won, for a stock that "most" keeps.

    It is lost just if some value that "all" chooses forces another one of its
    own, or was forced by what "some" had to choose ahead of it, or if "some"
    can choose neither value of an unknown.
    """
    leads = fixed_leads(Board(case), chosen)
    alls = further_alls(turns, chosen)
    if any([binds_all(leads, alls, unknown, value) for unknown in alls for value in (0, 1)]):
        return False
    return not any([is_torn(leads, unknown) for unknown in range(case[1]) if unknown not in alls])


def share(one, other, many):
    """Makes known in each of two states what the other one knows of the first many unknowns.

    Returns whether this can be.
    """
    for unknown in range(many):
        here, there = one.worths[unknown], other.worths[unknown]
        if here is None and there is not None:
            one.hold(unknown, there)
        elif there is None and here is not None:
            other.hold(unknown, here)
        elif here != there:
            return False
    return True


def halves_clash(board, held, unknown):
    """Whether "some" has no way in two plays in which "all" chooses as it is held, and both values of the unknown.

    The plays are alike ahead of it, so what is told of an unknown there in the
    one play is told in the other one, too.
    """
    zero = state_beside(board, held + [(unknown, 0)])
    one = state_beside(board, held + [(unknown, 1)])
    while len(zero.due) + len(one.due) > 0:
        if zero.settle() is not None or one.settle() is not None:
            return True
        if not share(zero, one, unknown):
            return True
    return False


def wins_by_halves(case, turns, chosen, other):
    """Whether the beginning is won, for a stock that "both" (other 1) or "either" (other 0) keeps.

    "all" does best by choosing other everywhere, but perhaps for one unknown.
    """
    board = Board(case)
    alls = further_alls(turns, chosen)
    held = list(enumerate(chosen))
    if state_beside(board, held + [(unknown, other) for unknown in alls]).settle() is not None:
        return False
    for unknown in alls:
        rest = [(each, other) for each in alls if each != unknown]
        if halves_clash(board, held + rest, unknown):
            return False
    return True


def wins(word, case, turns, chosen):
    """Whether the beginning is won; word is what makes the case's stock firm, None for a small case."""
    if word is None:
        return wins_by_rows(case, turns, chosen)
    if word == "odd":
        return wins_by_sums(case, turns, chosen)
    if word == "most":
        return wins_by_leads(case, turns, chosen)
    return wins_by_halves(case, turns, chosen, 1 if word == "both" else 0)
