"""Deeds: what an edit makes of the case and the names of a desk.

A deed is a tuple of its word and of what the method of this name is passed.
"""

from sixkeepers.bounds import BATCH, MAX_FACTS, MAX_NAME
from sixkeepers.errors import BadBatch, BadText, KeeperError, NoNumber, NoRelation, NotOne, NoUnknown, Rejected, Unfit
from sixkeepers.forms import is_between, is_tuple_of

# The words, each with the number of items of its deeds.
SHAPES = (("add", 3), ("put", 4), ("drop", 2), ("name", 3))
LETTERS = "abcdefghijklmnopqrstuvwxyz"
DIGITS = "0123456789"


def is_name(value):
    """Whether the value has the form of a name."""
    if not isinstance(value, str) or not 1 <= len(value) <= MAX_NAME:
        return False
    return value[0] in LETTERS and all([sign in LETTERS or sign in DIGITS for sign in value])


def is_deed(value):
    """Whether the value is a deed, whatever stands behind its word."""
    return isinstance(value, tuple) and len(value) > 0 and (value[0], len(value)) in SHAPES


def check_number(case, number):
    """Raises NoNumber if there is no fact with this number."""
    if not is_between(number, 0, len(case[2]) - 1):
        raise NoNumber(number)


def check_unknown(case, unknown):
    """Raises NoUnknown if the value is not one of the unknowns."""
    if not is_between(unknown, 0, case[1] - 1):
        raise NoUnknown(unknown)


def check_fact(case, index, places):
    """Raises what is wrong with the index and the places of a fact."""
    if not is_between(index, 0, len(case[0]) - 1):
        raise NoRelation(index)
    if not is_tuple_of(places, case[0][index][0]):
        raise Unfit()
    for unknown in places:
        check_unknown(case, unknown)


def with_facts(case, facts):
    """The case with other facts."""
    return (case[0], case[1], facts)


def added(case, index, places):
    """The case with a fact more."""
    check_fact(case, index, places)
    if len(case[2]) >= MAX_FACTS:
        raise Unfit()
    return with_facts(case, case[2] + ((index, places),))


def replaced(case, number, index, places):
    """The case with a fact in the stead of another one."""
    check_number(case, number)
    check_fact(case, index, places)
    return with_facts(case, case[2][:number] + ((index, places),) + case[2][number + 1:])


def dropped(case, number):
    """The case with a fact less."""
    check_number(case, number)
    return with_facts(case, case[2][:number] + case[2][number + 1:])


def renamed(case, names, unknown, text):
    """The names with another one for the unknown."""
    check_unknown(case, unknown)
    if not is_name(text):
        raise BadText(text)
    if text in names and names[unknown] != text:
        raise NotOne(text)
    return names[:unknown] + (text,) + names[unknown + 1:]


def behind_deed(case, names, deed):
    """The pair of the case and the names behind the deed."""
    word = deed[0]
    if word == "name":
        return (case, renamed(case, names, deed[1], deed[2]))
    if word == "add":
        return (added(case, deed[1], deed[2]), names)
    if word == "put":
        return (replaced(case, deed[1], deed[2], deed[3]), names)
    return (dropped(case, deed[1]), names)


def behind_batch(case, names, deeds):
    """The pair of the case and the names behind all of the deeds."""
    if not isinstance(deeds, tuple) or not 1 <= len(deeds) <= BATCH or not all([is_deed(deed) for deed in deeds]):
        raise BadBatch()
    for at, deed in enumerate(deeds):
        try:
            case, names = behind_deed(case, names, deed)
        except KeeperError:
            raise Rejected(at)
    return (case, names)


def first_names(unknowns):
    """The names that so many unknowns have at first."""
    return tuple([f"x{unknown}" for unknown in range(unknowns)])


def shifted(facts, by):
    """The facts about unknowns that stand so much further behind."""
    return tuple([(index, tuple([unknown + by for unknown in places])) for index, places in facts])
