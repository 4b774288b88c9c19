"""Whether a value is a paper that shows that a game is lost."""

from sixkeepers.forms import is_between, is_tuple_of
from sixkeepers.games import further_alls
from sixkeepers.halves import Halves
from sixkeepers.leads import does_lead, lead_masks, point_number
from sixkeepers.parity import placed_number
from sixkeepers.states import Board, state_beside
from sixkeepers.sums import holds_sum, sum_error


def is_tree(turns, state, many, value):
    """Whether the value is a tree of a beginning of many values; the state holds what is chosen."""
    if is_between(value, 0, len(state.rows) - 1):
        return state.rows[value] == 0
    if many == len(turns) or not is_tuple_of(value, 3) or value[0] != turns[many]:
        return False
    if value[0] == "all":
        return is_between(value[1], 0, 1) and is_tree_behind(turns, state, many, value[1], value[2])
    return all([is_tree_behind(turns, state, many, item, value[1 + item]) for item in (0, 1)])


def is_tree_behind(turns, state, many, item, value):
    """Whether the value is a tree of the beginning with one more item."""
    further = state.twin()
    further.hold(many, item)
    return is_tree(turns, further, many + 1, value)


def is_point(turns, value):
    """Whether the value is a pair of an unknown and 0 or 1."""
    return is_tuple_of(value, 2) and is_between(value[0], 0, len(turns) - 1) and is_between(value[1], 0, 1)


def are_led(board, points):
    """Whether each of the points leads to the next one."""
    leads = lead_masks(board)
    numbers = [point_number(unknown, value) for unknown, value in points]
    return all([does_lead(leads, numbers[at], numbers[at + 1]) for at in range(len(numbers) - 1)])


def has_both_values(turns, points):
    """Whether some unknown of "some" stands with both values among the points."""
    of_some = [point for point in points if turns[point[0]] == "some"]
    return len(set(of_some)) > len({unknown for unknown, _ in of_some})


def has_some_ahead(turns, points, border):
    """Whether a point of an unknown of "some" less than the border is among the points."""
    return any([turns[unknown] == "some" and unknown < border for unknown, _ in points])


def loses_by_ends(turns, points):
    """Whether points that each lead to the next one show that the game is lost."""
    first, last = points[0], points[-1]
    if first != last:
        return turns[first[0]] == "all" and turns[last[0]] == "all"
    return has_both_values(turns, points) or (turns[first[0]] == "all" and has_some_ahead(turns, points, first[0]))


def is_walk_paper(board, turns, value):
    """Whether the value is the points of a walk."""
    if not isinstance(value, tuple) or len(value) < 2 or not all([is_point(turns, point) for point in value]):
        return False
    return are_led(board, value) and loses_by_ends(turns, value)


def is_item(case, value):
    """Whether the value is a fact and a sum of places that holds for all rows of its relation."""
    stock, _, facts = case
    if not is_tuple_of(value, 2) or not is_between(value[0], 0, len(facts) - 1):
        return False
    arity, rows = stock[facts[value[0]][0]]
    return sum_error(arity, value[1]) is None and all([holds_sum(value[1], row) for row in rows])


def is_sums_paper(case, turns, value):
    """Whether the value is items that make a sum that holds for no row, or whose head is of "all"."""
    if not isinstance(value, tuple):
        return False
    total = 0
    for item in value:
        if not is_item(case, item):
            return False
        total = total ^ placed_number(item[1], case[2][item[0]][1])
    # In parity the number 1 is the sum without places and with the value 1, and a head is the highest bit.
    return total == 1 or (total > 1 and turns[total.bit_length() - 2] == "all")


def is_half_and_fact(board, value):
    """Whether the value begins with 0 or 1 and the number of a fact."""
    return is_between(value[0], 0, 1) and is_between(value[1], 0, len(board.sides) - 1)


def is_half_step(board, halves, value):
    """Whether the value is a step of the halves as they are now."""
    if not is_tuple_of(value, 4) or not is_half_and_fact(board, value):
        return False
    half, fact, target, worth = value
    # The target may be anything as yet, so it is measured before it is looked up.
    if not is_between(worth, 0, 1) or not is_between(target, 0, len(board.near) - 1):
        return False
    return target in board.sides[fact] and halves.is_told(half, fact, target, worth)


def is_halves_paper(board, turns, value):
    """Whether the value, of four items, is what is held, and steps behind which a fact clashes."""
    other, unknown, steps, clash = value
    alls = further_alls(turns, ())
    if not is_between(other, 0, 1) or not isinstance(steps, tuple):
        return False
    if unknown is not None and not (is_between(unknown, 0, len(turns) - 1) and unknown in alls):
        return False
    halves = Halves(board, [(each, other) for each in alls if each != unknown], unknown)
    for step in steps:
        if not is_half_step(board, halves, step):
            return False
        halves.tell(step[0], step[2], step[3])
    if not is_tuple_of(clash, 2) or not is_half_and_fact(board, clash):
        return False
    return halves.states[clash[0]].rows[clash[1]] == 0


def is_lost_paper(case, turns, value):
    """Whether the value shows that the game is lost."""
    if not isinstance(value, tuple) or len(value) < 2:
        return False
    word = value[0]
    board = Board(case)
    if word == "tree" and len(value) == 2:
        return is_tree(turns, state_beside(board, ()), 0, value[1])
    if word == "walk" and len(value) == 2:
        return is_walk_paper(board, turns, value[1])
    if word == "sums" and len(value) == 2:
        return is_sums_paper(case, turns, value[1])
    return word == "halves" and len(value) == 5 and is_halves_paper(board, turns, value[1:])
