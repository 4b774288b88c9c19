"""Sums as numbers, so that adding two of them is one bit operation.

The number of a sum has its value as bit 0, and bit place + 1 for each of its
places. So its highest bit is its head, and the sum that holds for no row has
the number 1. Numbers in which each head stands in no other one are a basis.
"""

from sixkeepers.closing import bits_of


def sum_number(one):
    """The number of the sum."""
    places, value = one
    return sum([1 << (place + 1) for place in places]) + value


def numbered_sum(number):
    """The sum of the number."""
    return (tuple([bit - 1 for bit in bits_of(number) if bit > 0]), number & 1)


def has_head(number, one):
    """Whether the head of one, a number above 0, stands in the number."""
    return (number >> (one.bit_length() - 1)) & 1 == 1


def without_heads(number, basis):
    """What the number becomes if those of the basis whose heads stand in it are added."""
    for one in basis:
        if has_head(number, one):
            number = number ^ one
    return number


def basis_of(numbers, idle):
    """The basis that makes just what the numbers make; the lowest idle bits are carried along only."""
    basis = []
    for number in numbers:
        fresh = without_heads(number, basis)
        if fresh >> idle != 0:
            basis = [one ^ fresh if has_head(one, fresh) else one for one in basis] + [fresh]
    return basis


def reduced_numbers(numbers):
    """The numbers of the reduced sums of those of the numbers."""
    basis = basis_of(numbers, 0)
    return [1] if 1 in basis else sorted(basis)


def pair_number(unknown, value):
    """The number of the sum that says the value of one place."""
    return (1 << (unknown + 1)) + value


def open_places(many, sums):
    """The places below many that are no heads of the sums, which are reduced and hold for some row."""
    heads = {places[-1]: True for places, _ in sums}
    return tuple([place for place in range(many) if place not in heads])


def filled_row(many, sums, values):
    """The row with the values at the open places for which all of the sums hold, likewise."""
    row = [0] * many
    for place, value in zip(open_places(many, sums), values):
        row[place] = value
    for places, value in sums:
        # All places of a reduced sum but its head are open ones.
        row[places[-1]] = (value + sum([row[place] for place in places[:-1]])) & 1
    return tuple(row)


def placed_number(one, places):
    """The number of a sum of places with the unknown at each of them in its stead."""
    number = one[1]
    for place in one[0]:
        number = number ^ pair_number(places[place], 0)
    return number


def placed_sum(one, places):
    """The sum of places with the unknown at each of them in its stead; one that comes twice goes out."""
    return numbered_sum(placed_number(one, places))
