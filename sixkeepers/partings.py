"""Partings: what shows that no walk leads from one answer to another one.

Of a walk that goes down, or up, the goal is the row of zeros, or of ones: each
answer is nearer to it than the one ahead.
"""

from sixkeepers.forms import is_answer, is_ascending, is_between, is_tuple_of
from sixkeepers.hopping import Hopper, changed, toward, unlike_places
from sixkeepers.islands import are_together, row_island, rows_of_mask
from sixkeepers.keepers import kept_by
from sixkeepers.solving import firm_or_small_word
from sixkeepers.states import Board
from sixkeepers.sums import case_sums, sum_error, sum_paper
from sixkeepers.walks import is_walk


def ends_parting(word, case, one, other):
    """The parting by the ends of walks that go down ("down") or up, of answers that are not together."""
    hopper = Hopper(case)
    goal = (0 if word == "down" else 1,) * case[1]
    return (word, toward(hopper, one, goal), toward(hopper, other, goal))


def sum_parting(case, one, other):
    """The parting by a sum, of answers that are not together, for a stock that "odd" keeps."""
    unlike = unlike_places(one, other)
    fit = [found for found in case_sums(case) if any([place in unlike for place in found[0]])]
    return ("sum", fit[0])


def needs(board, fact, point, further):
    """Whether each row of the fact that agrees and has the one point has the further one, too."""
    sides = board.sides[fact]
    return board.starts[fact] & sides[point[0]][point[1]] & sides[further[0]][1 - further[1]] == 0


def first_need(board, points, unknown):
    """A fact, and an unknown of the points, a dict, whose point it needs for that of this unknown."""
    for fact in board.near[unknown]:
        for further in board.sides[fact]:
            if further != unknown and further in points:
                if needs(board, fact, (unknown, points[unknown]), (further, points[further])):
                    return (fact, further)
    return None


def ring_parting(case, one, other):
    """The parting by a ring, of answers that are not together, for a stock that "most" keeps.

    Where no further change leads nearer to the other answer, each one that is
    left needs another one that is left ahead of it; so they go round.
    """
    board = Board(case)
    nearest = toward(Hopper(case), one, other)[-1]
    points = {unknown: other[unknown] for unknown in unlike_places(nearest, other)}
    unknown = min(points)
    steps = []
    spots = {}
    while unknown not in spots:
        spots[unknown] = len(steps)
        fact, further = first_need(board, points, unknown)
        steps.append((unknown, points[unknown], fact))
        unknown = further
    return ("ring", tuple(steps[spots[unknown]:]))


def apart(case, one, other):
    """A parting of both answers, None if they are together."""
    word = firm_or_small_word(case)
    if are_together(word, case, one, other):
        return None
    if word is None:
        return ("island", rows_of_mask(row_island(case, one), case[1]))
    if word == "odd":
        return sum_parting(case, one, other)
    if word == "most":
        return ring_parting(case, one, other)
    return ends_parting("down" if word == "both" else "up", case, one, other)


def is_island_parting(case, one, other, value):
    """Whether the value is rows from which no change leads to another answer, with one, but not other, among them."""
    if not isinstance(value, tuple) or not all([is_answer(case, row) for row in value]) or not is_ascending(value):
        return False
    rows = {row: True for row in value}
    if one not in rows or other in rows:
        return False
    hopper = Hopper(case)
    for row in value:
        for unknown in range(case[1]):
            if changed(row, unknown) not in rows and hopper.can_change(row, unknown):
                return False
    return True


def is_turned(case, one, other, value):
    """Whether the value is an unknown that has a value in other alone, this value, and the number of a fact."""
    if not is_tuple_of(value, 3) or not is_between(value[0], 0, case[1] - 1) or not is_between(value[1], 0, 1):
        return False
    unknown, item, fact = value
    return is_between(fact, 0, len(case[2]) - 1) and one[unknown] != item and other[unknown] == item


def is_linked(board, step, further):
    """Whether the fact of the step lets its unknown have the value only if the further one's has its own."""
    unknown, value, fact = step
    sides = board.sides[fact]
    if further[0] == unknown or unknown not in sides or further[0] not in sides:
        return False
    return needs(board, fact, (unknown, value), further[:2])


def is_ring_parting(case, one, other, value):
    """Whether the value is steps each of which needs the next one, and the last one the first one."""
    if not isinstance(value, tuple) or len(value) < 2:
        return False
    if not all([is_turned(case, one, other, step) for step in value]):
        return False
    board = Board(case)
    return all([is_linked(board, step, further) for step, further in zip(value, value[1:] + value[:1])])


def is_sum_parting(case, one, other, value):
    """Whether the value is a sum that the case's sums make, with a place at which both answers are unlike."""
    if sum_error(case[1], value) is not None or sum_paper(case_sums(case), value) is None:
        return False
    return any([one[place] != other[place] for place in value[0]])


def goes_to_end(case, row, value, goal):
    """Whether the value is a walk from the row on that goes toward the goal, till there is none further."""
    if not is_walk(case, value) or value[0] != row:
        return False
    left = [len(unlike_places(each, goal)) for each in value]
    return is_ascending(left[::-1]) and len(toward(Hopper(case), value[-1], goal)) == 1


def is_ends_parting(case, one, other, value):
    """Whether the value, of three items, is such walks as ends_parting makes, and what keeps the stock lets them."""
    word, first, second = value
    if ("both" if word == "down" else "either") not in kept_by(case[0]):
        return False
    goal = (0 if word == "down" else 1,) * case[1]
    if not goes_to_end(case, one, first, goal) or not goes_to_end(case, other, second, goal):
        return False
    return first[-1] != second[-1]


def is_apart(case, one, other, value):
    """Whether the value is a parting of both answers."""
    if not isinstance(value, tuple) or len(value) < 2:
        return False
    word = value[0]
    if word == "island" and len(value) == 2:
        return is_island_parting(case, one, other, value[1])
    if word == "ring" and len(value) == 2:
        return is_ring_parting(case, one, other, value[1])
    if word == "sum" and len(value) == 2:
        return is_sum_parting(case, one, other, value[1])
    return word in ("down", "up") and len(value) == 3 and is_ends_parting(case, one, other, value)
