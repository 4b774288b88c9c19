"""Learners, that are told rows and keep the closest guess that their shape can say."""

from sixkeepers.bounds import MAX_LEARNT
from sixkeepers.closing import all_rows
from sixkeepers.counting import listed
from sixkeepers.errors import BadRow, NothingToUndo, TooHard, Unfit
from sixkeepers.forms import is_answer, is_row
from sixkeepers.guesses import all_candidates, all_hold, closest_guess, holding, left_over


class Stage:
    """What a learner thinks behind some rows; it does not change."""

    def __init__(self, shape, candidates):
        self.candidates = candidates
        self.opinion = closest_guess(shape, candidates)
        self.size = left_over(shape, candidates)


class Learner:
    """Is told rows of many unknowns, and guesses by clauses of a shape and a width, or by sums."""

    def __init__(self, many, shape, width):
        self._many = many
        self._shape = shape
        self._width = width
        self._rows = []
        # One stage more than rows: the first one is that behind none.
        self._stages = [Stage(shape, all_candidates(many, shape, width))]

    @property
    def many(self):
        """The number of unknowns."""
        return self._many

    @property
    def shape(self):
        """The shape of the guess."""
        return self._shape

    @property
    def width(self):
        """How many places a clause may have."""
        return self._width

    @property
    def guess(self):
        """The closest guess behind all rows that are told."""
        return self._stages[-1].opinion

    @property
    def told(self):
        """All rows that are told, in their order."""
        return tuple(self._rows)

    @property
    def left(self):
        """How many candidates are left."""
        return self._stages[-1].size

    def lets(self, row):
        """Whether the guess lets the row."""
        if not is_row(row, self._many):
            raise BadRow(row)
        return all_hold(self._shape, self._stages[-1].opinion, row)

    def tell(self, row):
        """Tells the row; returns whether the guess has changed."""
        known = self.lets(row)
        stage = self._stages[-1]
        if not known:
            stage = Stage(self._shape, holding(self._shape, stage.candidates, row))
        self._rows.append(row)
        self._stages.append(stage)
        return not known

    def take_back(self):
        """Takes back the last row that is told, and returns it."""
        if len(self._rows) == 0:
            raise NothingToUndo()
        self._stages.pop()
        return self._rows.pop()

    def copy(self):
        """Another learner with the same of all this, that goes on by itself."""
        other = Learner(self._many, self._shape, self._width)
        other._rows = list(self._rows)
        other._stages = list(self._stages)
        return other

    def __contains__(self, value):
        """Whether the value is a row that the guess lets."""
        return is_row(value, self._many) and all_hold(self._shape, self._stages[-1].opinion, value)

    def __len__(self):
        """The number of rows that are told."""
        return len(self._rows)

    def __eq__(self, value):
        """Whether the value is a learner that guesses the same, in the same shape and width."""
        if not isinstance(value, Learner):
            return False
        if self._many != value._many or self._shape != value._shape or self.guess != value.guess:
            return False
        # For sums the width does not matter.
        return self._shape == "odd" or self._width == value._width


def check_learnable(case):
    """Raises TooHard if the case has too many unknowns to learn it."""
    if case[1] > MAX_LEARNT:
        raise TooHard(case[1])


def check_fit(case, learner):
    """Raises TooHard as told, and Unfit for a learner of another number of unknowns."""
    check_learnable(case)
    if learner.many != case[1]:
        raise Unfit()


def against(case, learner):
    """The first answer that the guess does not let, None if it lets all."""
    check_fit(case, learner)
    for row in listed(case):
        if not learner.lets(row):
            return row
    return None


def beyond(case, learner):
    """The first row that the guess lets and that is no answer, None if there is none."""
    check_fit(case, learner)
    for row in all_rows(case[1]):
        if learner.lets(row) and not is_answer(case, row):
            return row
    return None


def learnt(case, shape, width):
    """The guess to which what against tells, again and again, leads, and how many rows are told on the way."""
    check_learnable(case)
    learner = Learner(case[1], shape, width)
    # What the guess lets it goes on to let, so no answer need be looked at twice.
    for row in listed(case):
        if not learner.lets(row):
            learner.tell(row)
    return (learner.guess, len(learner))
