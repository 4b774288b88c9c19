"""Two plays in which "all" chooses alike but at one unknown, and what is told in both."""

from sixkeepers.states import state_beside, told_value


class Halves:
    """What is held and told in the two plays, with the steps that have told it.

    The plays are alike ahead of the unknown at which "all" chooses otherwise
    in them, so what is told of an unknown there in the one half is told in
    the other one, too. If there is no such unknown (None), nothing goes over.
    """

    def __init__(self, board, held, unknown):
        own = [[] if unknown is None else [(unknown, half)] for half in (0, 1)]
        self.border = 0 if unknown is None else unknown
        self.states = [state_beside(board, held + pairs) for pairs in own]
        self.steps = []

    def is_told(self, half, fact, target, value):
        """Whether the fact, in which the target stands, tells its value in the half, known already or not."""
        state = self.states[half]
        rows = state.rows[fact]
        return rows != 0 and told_value(rows, state.board.sides[fact][target]) == value

    def tell(self, half, target, value):
        """Makes known in the half what is told there, and in the other one if it goes over."""
        for at, state in enumerate(self.states):
            if (at == half or target < self.border) and state.worths[target] is None:
                state.hold(target, value)

    def take(self, half, fact):
        """Makes known what the fact, which does not clash, tells in the half."""
        state = self.states[half]
        for target, pair in state.board.sides[fact].items():
            value = told_value(state.rows[fact], pair)
            if value is not None and state.worths[target] is None:
                self.steps.append((half, fact, target, value))
                self.tell(half, target, value)

    def settle(self):
        """Makes known what facts tell till none tells anything more; returns a half and a fact that clashes there.

        Returns None if none does.
        """
        while len(self.states[0].due) + len(self.states[1].due) > 0:
            half = 0 if len(self.states[0].due) > 0 else 1
            state = self.states[half]
            fact = state.due.pop()
            if state.rows[fact] == 0:
                return (half, fact)
            self.take(half, fact)
        return None
