"""How many answers a case has, each by its number, and the nearest to a wish."""

from sixkeepers.bounds import MAX_SMALL
from sixkeepers.closing import bits_of, numbered_row, row_number
from sixkeepers.errors import BadRow, NoNumber, TooHard
from sixkeepers.forms import is_answer, is_between, is_row
from sixkeepers.keepers import kept_by
from sixkeepers.masks import answers_mask
from sixkeepers.parity import filled_row, open_places
from sixkeepers.sums import case_sums, free_places, sum_count


def check_small(case):
    """Raises TooHard if the case is not small."""
    if case[1] > MAX_SMALL:
        raise TooHard(case[1])


def goes_by_sums(case):
    """Whether "odd" keeps the case's stock; TooHard if it does not and the case is not small."""
    if "odd" in kept_by(case[0]):
        return True
    check_small(case)
    return False


def listed(case):
    """All answers of a small case, ascending."""
    return [numbered_row(number, case[1]) for number in bits_of(answers_mask(case))]


def count(case):
    """How many answers the case has."""
    if goes_by_sums(case):
        return sum_count(case[1], case_sums(case))
    return len(listed(case))


def numbered_answer(unknowns, sums, number):
    """The answer with the number of a case whose answers are those rows for which the reduced sums hold."""
    return filled_row(unknowns, sums, numbered_row(number, len(open_places(unknowns, sums))))


def answer_at(case, number):
    """The answer with this number."""
    if not is_between(number, 0, count(case) - 1):
        raise NoNumber(number)
    if goes_by_sums(case):
        return numbered_answer(case[1], case_sums(case), number)
    return listed(case)[number]


def number_of(case, value):
    """The number of the value, None if it is no answer."""
    by_sums = goes_by_sums(case)
    if not is_answer(case, value):
        return None
    if by_sums:
        return row_number([value[place] for place in free_places(case[1], case_sums(case))])
    return listed(case).index(value)


def answers(case):
    """Yields all answers in ascending order."""
    if goes_by_sums(case):
        unknowns = case[1]
        sums = case_sums(case)
        for number in range(sum_count(unknowns, sums)):
            yield numbered_answer(unknowns, sums, number)
    else:
        for row in listed(case):
            yield row


def yes_counts(case):
    """For each unknown the number of answers in which it is 1."""
    if not goes_by_sums(case):
        rows = listed(case)
        return tuple([sum([row[unknown] for row in rows]) for unknown in range(case[1])])
    sums = case_sums(case)
    total = sum_count(case[1], sums)
    # An unknown that is not told by a sum of its own has each value in half of the answers.
    told = {places[0]: value * total for places, value in sums if len(places) == 1}
    return tuple([told.get(unknown, total // 2) for unknown in range(case[1])])


def spread(case):
    """How many answers have so many unknowns that are 1, from 0 on."""
    check_small(case)
    found = [0] * (case[1] + 1)
    for row in listed(case):
        found[sum(row)] = found[sum(row)] + 1
    return tuple(found)


def check_wish(case, wish):
    """Raises TooHard if the case is not small, BadRow if the wish is no row of its unknowns."""
    check_small(case)
    if not is_row(wish, case[1]):
        raise BadRow(wish)


def distances(case, wish):
    """Pairs of the number of unknowns in which an answer is unlike the wish, and the answer."""
    return [(sum([item ^ other for item, other in zip(row, wish)]), row) for row in listed(case)]


def nearest(case, wish):
    """The least number of unknowns in which an answer is unlike the wish, and the first such answer."""
    check_wish(case, wish)
    return min(distances(case, wish), default=None)


def farthest(case, wish):
    """The greatest number of unknowns in which an answer is unlike the wish, and the first such answer."""
    check_wish(case, wish)
    found = min([(-many, row) for many, row in distances(case, wish)], default=None)
    return None if found is None else (-found[0], found[1])


def cheapest(case, costs):
    """The least cost of an answer, and the first answer that costs this."""
    check_small(case)
    priced = [(sum([cost for cost, item in zip(costs, row) if item == 1]), row) for row in listed(case)]
    return min(priced, default=None)
