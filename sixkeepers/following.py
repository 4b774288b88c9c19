"""What facts tell, one behind the other, beside what is known."""

from sixkeepers.forms import is_between, is_tuple_of
from sixkeepers.states import Board, chain_beside, state_beside


def agrees(row, places, known):
    """Whether the row agrees beside the known values, a dict, at the places."""
    seen = {}
    for unknown, item in zip(places, row):
        if seen.setdefault(unknown, known.get(unknown, item)) != item:
            return False
    return True


def agreeing(case, fact, known):
    """The rows of the fact's relation that agree beside what is known."""
    stock, _, facts = case
    index, places = facts[fact]
    values = dict(known)
    return tuple([row for row in stock[index][1] if agrees(row, places, values)])


def follow(case, known):
    """What is known in the end if all that facts tell becomes known, None if a fact clashes."""
    state = state_beside(Board(case), known)
    if state.settle() is not None:
        return None
    return tuple([(unknown, value) for unknown, value in enumerate(state.worths) if value is not None])


def chain(case, known):
    """A chain beside what is known."""
    return chain_beside(Board(case), known)


def is_chain_step(state, value):
    """Whether the value is a step beside what the state knows."""
    if not is_tuple_of(value, 3):
        return False
    fact, unknown, worth = value
    sides = state.board.sides
    if not is_between(fact, 0, len(sides) - 1) or not is_between(worth, 0, 1):
        return False
    # The unknown may be anything as yet, so it is measured before it is looked up.
    if not is_between(unknown, 0, len(state.worths) - 1) or unknown not in sides[fact]:
        return False
    return state.is_told(fact, unknown, worth)


def is_chain(board, known, value):
    """Whether the value is a chain of the board's case beside what is known."""
    if not is_tuple_of(value, 2) or not isinstance(value[0], tuple):
        return False
    steps, end = value
    state = state_beside(board, known)
    for step in steps:
        if not is_chain_step(state, step):
            return False
        state.hold(step[1], step[2])
    if end is None:
        return state.settle() is None and len(state.steps) == 0
    return is_between(end, 0, len(state.rows) - 1) and state.rows[end] == 0


def chain_holds(case, known, value):
    """Whether the value is a chain beside what is known."""
    return is_chain(Board(case), known, value)
