"""Sums: what holds if an even, or an odd, number of places is yes."""

from sixkeepers.closing import all_rows, bits_of
from sixkeepers.forms import are_places, is_between, is_tuple_of
from sixkeepers.parity import basis_of, filled_row, numbered_sum, open_places, placed_number, reduced_numbers
from sixkeepers.parity import sum_number, without_heads

NEVER = (((), 1),)


def sum_error(many, value):
    """None for a sum of many places, otherwise "sum"."""
    if is_tuple_of(value, 2) and are_places(value[0], many) and is_between(value[1], 0, 1):
        return None
    return "sum"


def holds_sum(one, row):
    """Whether the sum holds for the row."""
    places, value = one
    return sum([row[place] for place in places]) & 1 == value


def added_sum(one, other):
    """What two sums make, added."""
    return numbered_sum(sum_number(one) ^ sum_number(other))


def reduced(sums):
    """The reduced sums that hold all for just the rows for which all of these hold."""
    return tuple([numbered_sum(number) for number in reduced_numbers([sum_number(one) for one in sums])])


def hold_all(sums, row):
    """Whether all of the sums hold for the row."""
    return all([holds_sum(one, row) for one in sums])


def all_holding(relation):
    """All sums of as many places as the relation has that hold for all of its rows."""
    # The numbers of so many bits are those of all sums of so many places.
    every = [numbered_sum(number) for number in range(1 << (relation[0] + 1))]
    return [one for one in every if all([holds_sum(one, row) for row in relation[1]])]


def sums_of(relation):
    """The reduced sums of the least relation around this one that "odd" keeps."""
    return reduced(all_holding(relation))


def said_sums(arity, sums):
    """The relation of all rows for which all of the sums hold."""
    return (arity, tuple([row for row in all_rows(arity) if hold_all(sums, row)]))


def sum_paper(sums, wanted):
    """Indexes of sums that, added, make the wanted one, None if there are none."""
    many = len(sums)
    # The lowest bits tell of which sums a number is made.
    numbers = [(sum_number(one) << many) | (1 << index) for index, one in enumerate(sums)]
    rest = without_heads(sum_number(wanted) << many, basis_of(numbers, many))
    if rest >> many != 0:
        return None
    return bits_of(rest)


def sum_paper_holds(sums, wanted, value):
    """Whether the value is an ascending tuple of indexes of sums that, added, make the wanted one."""
    if not are_places(value, len(sums)):
        return False
    total = 0
    for index in value:
        total = total ^ sum_number(sums[index])
    return total == sum_number(wanted)


def free_places(many, sums):
    """The places that are no heads of the reduced sums, None if the sums hold all for no row."""
    found = reduced(sums)
    return None if found == NEVER else open_places(many, found)


def sum_row(many, sums, values):
    """The row with these values at the free places for which all of the sums hold."""
    return filled_row(many, reduced(sums), values)


def sum_count(many, sums):
    """For how many rows all of the sums hold."""
    free = free_places(many, sums)
    return 0 if free is None else 1 << len(free)


def fact_sums(case):
    """For each fact the numbers of the sums of its relation, with the unknowns in the places' stead."""
    found = [sums_of(relation) for relation in case[0]]
    return [[placed_number(one, places) for one in found[index]] for index, places in case[2]]


def case_numbers(case):
    """The numbers of the reduced sums of the case."""
    return reduced_numbers([number for numbers in fact_sums(case) for number in numbers])


def case_sums(case):
    """The reduced sums of the case's unknowns that hold just where those of all facts hold."""
    return tuple([numbered_sum(number) for number in case_numbers(case)])
