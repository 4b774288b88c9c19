"""Points, that an unknown has a value, and which of them lead to which others.

The number of a point is twice its unknown plus its value; so the points to
which one leads stand as the bits of one number.
"""

from sixkeepers.closing import bits_of


def point_number(unknown, value):
    """The number of the point that the unknown has the value."""
    return 2 * unknown + value


def numbered_point(number):
    """The point of the number."""
    return (number // 2, number & 1)


def led_points(sides, rows):
    """The points that all of the rows of a fact have, as the bits of one number."""
    found = 0
    for unknown, pair in sides.items():
        for value in (0, 1):
            if rows & pair[1 - value] == 0:
                found = found | (1 << point_number(unknown, value))
    return found


def lead_masks(board):
    """For each point, by its number, those to which some fact leads from it."""
    leads = [0] * (2 * len(board.near))
    for sides, start in zip(board.sides, board.starts):
        for unknown, pair in sides.items():
            for value in (0, 1):
                found = led_points(sides, start & pair[value])
                leads[point_number(unknown, value)] = leads[point_number(unknown, value)] | found
    return leads


def does_lead(leads, one, other):
    """Whether the point of the one number leads to that of the other."""
    return (leads[one] >> other) & 1 == 1


def led_on(leads):
    """For each point those to which others lead from it, over however many."""
    for middle in range(len(leads)):
        leads = [mask | leads[middle] if (mask >> middle) & 1 == 1 else mask for mask in leads]
    return leads


def led_way(leads, one, other):
    """The numbers of points from one to other, each leading to the next one; over some the one leads to the other."""
    ahead = {}
    queue = [one]
    while other not in ahead:
        further = []
        for number in list(queue):
            for fresh in bits_of(leads[number]):
                if fresh not in ahead:
                    ahead[fresh] = number
                    further.append(fresh)
        queue = further
    way = [ahead[other], other]
    while way[0] != one:
        way = [ahead[way[0]]] + way
    return way
