"""Answers of a case that have values which are known, each sort of stock by its own way.

Each solver has two methods. can tells whether some answer has the known
values, pairs of an unknown and its value in any order; row tells the least of
these answers (first 0) or the greatest one (first 1), None if there is none.
"""

from sixkeepers.closing import numbered_row
from sixkeepers.keepers import kept_by
from sixkeepers.masks import answers_mask, side_masks
from sixkeepers.parity import filled_row, numbered_sum, open_places, pair_number, reduced_numbers
from sixkeepers.states import Board, state_behind, state_beside
from sixkeepers.sums import case_numbers

FIRM = ("both", "either", "most", "odd")


def firm_word(stock):
    """The name of one of the four that keeps the stock, None if it is not firm."""
    for word in kept_by(stock):
        if word in FIRM:
            return word
    return None


def set_further(state, first):
    """The settled state with a value for its first open unknown, the one that is tried first if it can be."""
    unknown = state.worths.index(None)
    further = state_behind(state, ((unknown, first),))
    return state_behind(state, ((unknown, 1 - first),)) if further is None else further


def completed(state, first):
    """The first row that a settled state leads to, None if it leads to none.

    If "both" or "either" keeps the stock, there is always one. If "most" does,
    a value that makes no fact clash takes no answer from the unknowns that are
    still open behind it. So what is set need never be taken back.
    """
    while state is not None and None in state.worths:
        state = set_further(state, first)
    return None if state is None else tuple(state.worths)


class Spreader:
    """For a stock that "both", "either" or "most" keeps: by following what facts tell."""

    def __init__(self, word, case):
        state = state_beside(Board(case), ())
        self.base = state if state.settle() is None else None
        if word == "most" and self.base is not None and completed(self.base, 0) is None:
            self.base = None

    def can(self, known):
        """Whether some answer has the known values."""
        return self.base is not None and state_behind(self.base, known) is not None

    def row(self, known, first):
        """The least or the greatest answer that has the known values."""
        if self.base is None:
            return None
        return completed(state_behind(self.base, known), first)


class Summer:
    """For a stock that "odd" keeps: by sums."""

    def __init__(self, case):
        self.size = case[1]
        self.base = case_numbers(case)

    def beside(self, known):
        """The numbers of the reduced sums that say the known values, too."""
        return reduced_numbers(self.base + [pair_number(unknown, value) for unknown, value in known])

    def can(self, known):
        """Whether some answer has the known values."""
        return self.beside(known) != [1]

    def row(self, known, first):
        """The least or the greatest answer that has the known values."""
        numbers = self.beside(known)
        if numbers == [1]:
            return None
        sums = [numbered_sum(number) for number in numbers]
        return filled_row(self.size, sums, (first,) * len(open_places(self.size, sums)))


class Sifter:
    """For any stock and few unknowns: by all rows at once, as in masks."""

    def __init__(self, case):
        self.size = case[1]
        self.sides = side_masks(self.size)
        self.base = answers_mask(case)

    def beside(self, known):
        """The mask of the answers that have the known values."""
        mask = self.base
        for unknown, value in known:
            mask = mask & self.sides[unknown][value]
        return mask

    def can(self, known):
        """Whether some answer has the known values."""
        return self.beside(known) != 0

    def row(self, known, first):
        """The least or the greatest answer that has the known values."""
        mask = self.beside(known)
        if mask == 0:
            return None
        least = mask if first == 1 else mask & -mask
        return numbered_row(least.bit_length() - 1, self.size)


class Level:
    """For a stock that "low" or "high" keeps and nothing known: a row of one value is always an answer."""

    def __init__(self, word, case):
        self.size = case[1]
        self.worth = 0 if word == "low" else 1

    def can(self, known):
        """Whether there is an answer: as nothing is known, there is."""
        return True

    def row(self, known, first):
        """The answer of one value."""
        return (self.worth,) * self.size


def made_solver(word, case):
    """The solver for a case of a stock that the keeper of this name keeps; None stands for none."""
    if word is None:
        return Sifter(case)
    if word == "odd":
        return Summer(case)
    if word in ("low", "high"):
        return Level(word, case)
    return Spreader(word, case)
