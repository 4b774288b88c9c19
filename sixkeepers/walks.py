"""Walks from answer to answer, by one change each."""

from sixkeepers.closing import numbered_row, row_number
from sixkeepers.counting import check_small
from sixkeepers.forms import is_answer
from sixkeepers.hopping import Hopper, toward, unlike_places
from sixkeepers.keepers import kept_by
from sixkeepers.layers import shortest_way
from sixkeepers.masks import answers_mask, side_masks
from sixkeepers.solving import firm_solver


def hops(case, row):
    """The unknowns whose value can be changed in the answer so that it stays an answer."""
    hopper = Hopper(case)
    return tuple([unknown for unknown in range(case[1]) if hopper.can_change(row, unknown)])


def is_walk(case, value):
    """Whether the value is a walk of the case."""
    if not isinstance(value, tuple) or len(value) == 0 or not all([is_answer(case, row) for row in value]):
        return False
    return all([len(unlike_places(value[at], value[at + 1])) == 1 for at in range(len(value) - 1)])


def goes_straight(case):
    """Whether "most" or "odd" keeps the case's stock; TooHard if neither does and the case is not small.

    If so, no walk need change an unknown twice: whoever comes nearer to the
    goal with each change can go on till the end, or there is no walk at all.
    """
    names = kept_by(case[0])
    if "most" in names or "odd" in names:
        return True
    check_small(case)
    return False


def straight_walk(case, row, goal):
    """The walk that changes just what is unlike, None if there is none."""
    walked = toward(Hopper(case), row, goal)
    return walked if walked[-1] == goal else None


def searched_walk(case, row, ends, sides):
    """A shortest walk of a small case from the row to one of a mask, None if there is none."""
    way = shortest_way(answers_mask(case), sides, 1 << row_number(row), ends)
    return None if way is None else tuple([numbered_row(number, case[1]) for number in way])


def walk(case, one, other):
    """A shortest walk from one to the other, None if there is none."""
    if goes_straight(case):
        return straight_walk(case, one, other)
    return searched_walk(case, one, 1 << row_number(other), side_masks(case[1]))


def nearest_goal(case, row, unknown):
    """The row with those values changed that no answer has which has the other one of the unknown.

    None if no answer has this. If "most" keeps the stock, the row is an answer;
    if "odd" does, perhaps not, but then there is no walk.
    """
    solver = firm_solver(case)
    turned = (unknown, 1 - row[unknown])
    if not solver.can((turned,)):
        return None
    return tuple([value if solver.can((turned, (at, value))) else 1 - value for at, value in enumerate(row)])


def walk_to(case, row, unknown):
    """A shortest walk from the row to an answer with the other value of the unknown, None if there is none."""
    if goes_straight(case):
        goal = nearest_goal(case, row, unknown)
        return None if goal is None else straight_walk(case, row, goal)
    sides = side_masks(case[1])
    return searched_walk(case, row, sides[unknown][1 - row[unknown]], sides)
