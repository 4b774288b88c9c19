"""Papers that show that a game is lost."""

from sixkeepers.closing import row_number
from sixkeepers.games import all_winners, binding_point, further_alls, is_torn
from sixkeepers.halves import Halves
from sixkeepers.leads import lead_masks, led_on, led_way, numbered_point, point_number
from sixkeepers.parity import placed_sum
from sixkeepers.solving import firm_or_small_word
from sixkeepers.states import Board, chain_beside, state_beside
from sixkeepers.sums import NEVER, case_sums, sum_paper, sums_of


def tree_of(levels, turns, state, begin):
    """A tree of the beginning, which is lost; the state holds what is chosen."""
    if 0 in state.rows:
        return state.rows.index(0)
    subtrees = []
    for value in (0, 1):
        further = begin + (value,)
        is_needed = turns[len(begin)] == "some" or len(subtrees) == 0
        if is_needed and not levels[len(further)][row_number(further)]:
            twin = state.twin()
            twin.hold(len(begin), value)
            subtrees.append((value, tree_of(levels, turns, twin, further)))
    if turns[len(begin)] == "all":
        return ("all",) + subtrees[0]
    return ("some", subtrees[0][1], subtrees[1][1])


def tree_paper(case, turns):
    """The tree of a game that is lost, for a small case."""
    levels = all_winners(case, turns, 0)
    if levels[0][0]:
        return None
    return ("tree", tree_of(levels, turns, state_beside(Board(case), ()), ()))


def losing_way(leads, alls, unknowns):
    """The numbers of points over which a game is lost, None if it is won; for a stock that "most" keeps."""
    further = led_on(leads)
    for unknown in alls:
        for value in (0, 1):
            other = binding_point(further, alls, unknown, value)
            if other is not None:
                point = point_number(unknown, value)
                way = led_way(leads, point, other)
                return way if other // 2 in alls else way[:-1] + led_way(leads, other, point)
    for unknown in range(unknowns):
        if unknown not in alls and is_torn(further, unknown):
            zero, one = point_number(unknown, 0), point_number(unknown, 1)
            return led_way(leads, zero, one)[:-1] + led_way(leads, one, zero)
    return None


def walk_paper(case, turns):
    """The walk of a game that is lost, for a stock that "most" keeps."""
    way = losing_way(lead_masks(Board(case)), further_alls(turns, ()), case[1])
    return None if way is None else ("walk", tuple([numbered_point(number) for number in way]))


def losing_sum(case, turns):
    """A sum of the case that holds for no row, or whose head is of "all"; None if there is none."""
    for one in case_sums(case):
        if one == NEVER[0] or turns[one[0][-1]] == "all":
            return one
    return None


def sums_paper(case, turns):
    """The sums of a game that is lost, for a stock that "odd" keeps."""
    wanted = losing_sum(case, turns)
    if wanted is None:
        return None
    forms = [sums_of(relation) for relation in case[0]]
    items = [(fact, one) for fact, (index, _) in enumerate(case[2]) for one in forms[index]]
    placed = [placed_sum(one, case[2][fact][1]) for fact, one in items]
    return ("sums", tuple([items[index] for index in sum_paper(placed, wanted)]))


def halves_paper(case, turns, other):
    """The halves of a game that is lost, for a stock that "both" (other 1) or "either" (other 0) keeps."""
    board = Board(case)
    alls = further_alls(turns, ())
    steps, end = chain_beside(board, [(unknown, other) for unknown in alls])
    if end is not None:
        return ("halves", other, None, tuple([(0,) + step for step in steps]), (0, end))
    for unknown in alls:
        halves = Halves(board, [(each, other) for each in alls if each != unknown], unknown)
        clash = halves.settle()
        if clash is not None:
            return ("halves", other, unknown, tuple(halves.steps), clash)
    return None


def lost_paper(case, turns):
    """A paper that shows that the game is lost, None if it is won."""
    word = firm_or_small_word(case)
    if word is None:
        return tree_paper(case, turns)
    if word == "odd":
        return sums_paper(case, turns)
    if word == "most":
        return walk_paper(case, turns)
    return halves_paper(case, turns, 1 if word == "both" else 0)
