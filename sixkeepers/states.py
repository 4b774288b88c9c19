"""What is known of a case's unknowns, and which rows of its facts agree with it.

The rows of a fact's relation stand as the bits of one number, bit 0 for the
first row; so one bit operation takes out all rows that agree no more.
"""


def column_ones(relation):
    """For each place of the relation the bits of the rows that have 1 there."""
    arity, rows = relation
    return [sum([row[place] << bit for bit, row in enumerate(rows)]) for place in range(arity)]


def fact_sides(places, columns, full):
    """For each unknown of the fact the rows that have 0 at all of its places, and those that have 1."""
    sides = {}
    for unknown, ones in zip(places, columns):
        zero, one = sides.get(unknown, (full, full))
        sides[unknown] = (zero & ~ones, one & ones)
    return sides


def agreeing_rows(sides, full):
    """The rows that have one value at all places with one unknown."""
    rows = full
    for zero, one in sides.values():
        rows = rows & (zero | one)
    return rows


def told_value(rows, pair):
    """The value that each of the rows, of which there are some, has; pair are those with 0 and those with 1."""
    if rows & pair[0] == 0:
        return 1
    return 0 if rows & pair[1] == 0 else None


class Board:
    """The facts of a case with their rows as bits; it does not change.

    For each fact, sides tells for each of its unknowns the rows with 0 and
    those with 1, and starts the rows that agree when nothing is known; near
    tells for each unknown the numbers of the facts in which it stands.
    """

    def __init__(self, case):
        columns = [column_ones(relation) for relation in case[0]]
        fulls = [(1 << len(relation[1])) - 1 for relation in case[0]]
        self.sides = [fact_sides(places, columns[index], fulls[index]) for index, places in case[2]]
        self.starts = [agreeing_rows(sides, fulls[fact[0]]) for sides, fact in zip(self.sides, case[2])]
        self.near = [[] for _ in range(case[1])]
        for number, sides in enumerate(self.sides):
            for unknown in sides:
                self.near[unknown].append(number)


class State:
    """What is known beside a board, with the steps that have told it since the state was made.

    worths has for each unknown its value, None if it is not known; rows for
    each fact those that agree; due the facts that are still to be looked at.
    """

    def __init__(self, board, worths, rows, due):
        self.board = board
        self.worths = worths
        self.rows = rows
        self.due = due
        self.steps = []

    def twin(self):
        """Another state that knows the same, and goes on by itself."""
        return State(self.board, list(self.worths), list(self.rows), list(self.due))

    def hold(self, unknown, value):
        """Makes it known that the unknown, not known before, has the value."""
        self.worths[unknown] = value
        for fact in self.board.near[unknown]:
            self.rows[fact] = self.rows[fact] & self.board.sides[fact][unknown][value]
            self.due.append(fact)

    def is_told(self, fact, unknown, value):
        """Whether the fact, in which the unknown stands, tells this value of it."""
        rows = self.rows[fact]
        if rows == 0 or self.worths[unknown] is not None:
            return False
        return told_value(rows, self.board.sides[fact][unknown]) == value

    def take(self, fact):
        """Makes known what the fact, which does not clash, tells."""
        for unknown, pair in self.board.sides[fact].items():
            value = told_value(self.rows[fact], pair)
            if value is not None and self.worths[unknown] is None:
                self.steps.append((fact, unknown, value))
                self.hold(unknown, value)

    def settle(self):
        """Makes known what facts tell till none tells anything more; returns one that clashes, None if none does."""
        while len(self.due) > 0:
            fact = self.due.pop()
            if self.rows[fact] == 0:
                return fact
            self.take(fact)
        return None


def state_beside(board, pairs):
    """The state in which just the pairs are known, and all facts are still to be looked at."""
    state = State(board, [None] * len(board.near), list(board.starts), list(range(len(board.starts))))
    for unknown, value in pairs:
        state.hold(unknown, value)
    return state


def state_behind(state, pairs):
    """What becomes of the settled state beside the pairs, settled, too; None if a fact clashes."""
    further = state.twin()
    for unknown, value in pairs:
        if further.worths[unknown] is None:
            further.hold(unknown, value)
        elif further.worths[unknown] != value:
            return None
    return further if further.settle() is None else None


def chain_beside(board, pairs):
    """The steps beside the pairs, and the fact that clashes in the end, None if none does."""
    state = state_beside(board, pairs)
    end = state.settle()
    return (tuple(state.steps), end)
