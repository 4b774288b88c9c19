"""Answers of a case, or a refutation that shows that it has none."""

from sixkeepers.bounds import MAX_HARD, MAX_SMALL
from sixkeepers.closing import bits_of
from sixkeepers.errors import TooHard
from sixkeepers.following import agreeing, is_chain
from sixkeepers.forms import is_between, is_tuple_of
from sixkeepers.keepers import way
from sixkeepers.parity import numbered_sum
from sixkeepers.solvers import Sifter, firm_word, made_solver
from sixkeepers.states import Board, chain_beside, state_beside
from sixkeepers.sums import NEVER, added_sum, fact_sums, sum_error, sum_paper


def check_hard(case, word):
    """Raises TooHard if the word tells no keeper and the case has too many unknowns to try all rows."""
    if word is None and case[1] > MAX_HARD:
        raise TooHard(case[1])


def way_word(case):
    """The name of the way of the case's stock, TooHard if it has none and the case is too great."""
    word = way(case[0])
    check_hard(case, word)
    return word


def firm_case_word(case):
    """The name of what makes the case's stock firm, None for a small one that is not, TooHard for a great one."""
    word = firm_word(case[0])
    check_hard(case, word)
    return word


def firm_or_small_word(case):
    """The name of what makes the case's stock firm, None for a small case of another stock, otherwise TooHard."""
    word = firm_word(case[0])
    if word is None and case[1] > MAX_SMALL:
        raise TooHard(case[1])
    return word


def firm_solver(case):
    """The solver for a case within reach, TooHard for another one."""
    return made_solver(firm_case_word(case), case)


def answer(case):
    """An answer of the case, None if there is none."""
    return made_solver(way_word(case), case).row((), 0)


def answer_with(case, known):
    """An answer that has the known values, None if there is none."""
    return firm_solver(case).row(known, 0)


def least_answer(case):
    """The first answer in ascending order, None if there is none."""
    return firm_solver(case).row((), 0)


def greatest_answer(case):
    """The last answer in ascending order, None if there is none."""
    return firm_solver(case).row((), 1)


def clash_refutation(board, known):
    """The refutation beside what is known by a fact that clashes, None if there is none."""
    steps, end = chain_beside(board, known)
    return None if end is None else ("clash", steps, end)


def split_refutation(board):
    """The refutation of a case whose stock "most" keeps, None if there is none.

    Such a case has an answer unless both values of some unknown clash by
    themselves, so there is no need to look deeper.
    """
    for unknown in range(len(board.near)):
        zero = clash_refutation(board, ((unknown, 0),))
        if zero is not None:
            one = clash_refutation(board, ((unknown, 1),))
            if one is not None:
                return ("split", unknown, zero, one)
    return None


def sums_refutation(case):
    """The refutation of a case whose stock "odd" keeps, None if there is none."""
    pairs = []
    for fact, numbers in enumerate(fact_sums(case)):
        pairs = pairs + [(fact, numbered_sum(number)) for number in numbers]
    paper = sum_paper([one for _, one in pairs], NEVER[0])
    return None if paper is None else ("sums", tuple([pairs[index] for index in paper]))


def tightest_unknown(state):
    """The first open unknown of a fact with as few rows left as any fact that has one."""
    choices = []
    for fact, sides in enumerate(state.board.sides):
        unset = [unknown for unknown in sides if state.worths[unknown] is None]
        if len(unset) > 0:
            choices.append((len(bits_of(state.rows[fact])), min(unset)))
    return min(choices)[1]


def searched_refutation(board, known):
    """A refutation beside what is known of a case that has no answer beside it, whatever its stock."""
    state = state_beside(board, known)
    end = state.settle()
    if end is not None:
        return ("clash", tuple(state.steps), end)
    # There is such an unknown: if the values of all that facts are about were known, this were an answer.
    unknown = tightest_unknown(state)
    zero = searched_refutation(board, known + ((unknown, 0),))
    one = searched_refutation(board, known + ((unknown, 1),))
    return ("split", unknown, zero, one)


def refute(case):
    """A refutation of the case, None if there is none."""
    word = way_word(case)
    if word in ("low", "high"):
        return None
    if word == "odd":
        return sums_refutation(case)
    board = Board(case)
    if word is None:
        return None if Sifter(case).can(()) else searched_refutation(board, ())
    clash = clash_refutation(board, ())
    return split_refutation(board) if clash is None and word == "most" else clash


def is_fact_sum(case, value):
    """Whether the value is a fact and a sum of its unknowns that holds for all rows that agree."""
    _, unknowns, facts = case
    if not is_tuple_of(value, 2) or not is_between(value[0], 0, len(facts) - 1):
        return False
    fact, one = value
    if sum_error(unknowns, one) is not None:
        return False
    places = facts[fact][1]
    if not all([unknown in places for unknown in one[0]]):
        return False
    spots = [places.index(unknown) for unknown in one[0]]
    return all([sum([row[spot] for spot in spots]) & 1 == one[1] for row in agreeing(case, fact, ())])


def are_fact_sums(case, value):
    """Whether the value is facts with sums that, added, hold for no row."""
    if not isinstance(value, tuple):
        return False
    total = ((), 0)
    for item in value:
        if not is_fact_sum(case, item):
            return False
        total = added_sum(total, item[1])
    return (total,) == NEVER


def is_split(case, board, known, value):
    """Whether the value, of three items, is an open unknown and refutations beside both of its values."""
    unknown, zero, one = value
    if not is_between(unknown, 0, case[1] - 1) or unknown in [other for other, _ in known]:
        return False
    if not is_refutation(case, board, known + ((unknown, 0),), zero):
        return False
    return is_refutation(case, board, known + ((unknown, 1),), one)


def is_refutation(case, board, known, value):
    """Whether the value is a refutation of the case beside what is known."""
    if not isinstance(value, tuple) or len(value) < 2:
        return False
    word = value[0]
    if word == "clash" and len(value) == 3:
        return value[2] is not None and is_chain(board, known, value[1:])
    if word == "split" and len(value) == 4:
        return is_split(case, board, known, value[1:])
    return word == "sums" and len(value) == 2 and are_fact_sums(case, value[1])


def refutes(case, value):
    """Whether the value is a refutation of the case."""
    return is_refutation(case, Board(case), (), value)
