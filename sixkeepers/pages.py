"""What a desk holds at one version, and what an edit has made of the answers."""

from sixkeepers.clauses import case_clauses
from sixkeepers.solvers import firm_word, made_solver

NEWS = ("none", "answers", "same", "fewer", "more", "other")


class Page:
    """A case and the names of its unknowns, with the solver for it; it does not change."""

    def __init__(self, matter, labels):
        self.matter = matter
        self.labels = labels
        self.lines = matter[2]
        self.solver = made_solver(firm_word(matter[0]), matter)

    def is_open(self):
        """Whether the case has an answer."""
        return self.solver.can(())


def is_let(solver, clause):
    """Whether the clause holds for all answers of the solver's case."""
    yes, no = clause
    return not solver.can(tuple([(unknown, 0) for unknown in yes] + [(unknown, 1) for unknown in no]))


def lets_fewer(page, other):
    """Whether all answers of the page are answers of the other page, whose stock and unknowns are the same."""
    stock, unknowns, facts = other.matter
    fresh = tuple([fact for fact in facts if fact not in page.lines])
    if len(fresh) == 0:
        return True
    return all([is_let(page.solver, clause) for clause in case_clauses((stock, unknowns, fresh), "any")])


def news_between(old, new):
    """The word that tells what has become of the answers of the old page."""
    if not new.is_open():
        return "none" if old.is_open() else "same"
    if not old.is_open():
        return "answers"
    less, more = lets_fewer(new, old), lets_fewer(old, new)
    if less and more:
        return "same"
    if less:
        return "fewer"
    return "more" if more else "other"
