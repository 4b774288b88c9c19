"""Who wins if two set the unknowns by turns."""

from sixkeepers.bounds import MAX_SMALL
from sixkeepers.errors import TooHard
from sixkeepers.forms import is_tuple_of
from sixkeepers.games import winners, wins
from sixkeepers.solving import firm_or_small_word


def turns_error(case, value):
    """None for turns of the case, otherwise what is wrong with the value."""
    if not is_tuple_of(value, case[1]):
        return (None, "turns")
    for number, word in enumerate(value):
        if word not in ("some", "all"):
            return (number, "word")
    return None


def won(case, turns):
    """Whether the game is won."""
    return won_from(case, turns, ())


def won_from(case, turns, begin):
    """Whether the beginning is won."""
    return wins(firm_or_small_word(case), case, turns, begin)


def good(case, turns, begin):
    """The values with which the one whose turn it is stays the winner."""
    word = firm_or_small_word(case)
    wanted = turns[len(begin)] == "some"
    return tuple([value for value in (0, 1) if wins(word, case, turns, begin + (value,)) == wanted])


def handed(turns, unknown):
    """The turns with the unknown handed to the other one."""
    word = "all" if turns[unknown] == "some" else "some"
    return turns[:unknown] + (word,) + turns[unknown + 1:]


def hinges(case, turns):
    """The unknowns each of which alone, handed to the other one, makes the other one win."""
    if case[1] > MAX_SMALL:
        raise TooHard(case[1])
    now = winners(case, turns, 0)
    return tuple([unknown for unknown in range(case[1]) if winners(case, handed(turns, unknown), 0) != now])
