"""Ways over the answers of a small case by one change each, many rows at once, as in masks.

base is the mask of all answers, sides are those that masks tells.
"""


def lowest_bit(mask):
    """The mask of the first row of the mask."""
    return mask & -mask


def by_change_of(mask, sides, unknown):
    """The mask of the rows of the mask with the value of the unknown changed."""
    zeros, ones = sides[unknown]
    # By so much the numbers of two rows differ that are unlike in this unknown alone.
    weight = 1 << (len(sides) - 1 - unknown)
    return ((mask & zeros) << weight) | ((mask & ones) >> weight)


def by_one_change(mask, sides):
    """The mask of the rows that are unlike some row of the mask in just one unknown."""
    found = 0
    for unknown in range(len(sides)):
        found = found | by_change_of(mask, sides, unknown)
    return found


def layers_from(base, sides, start, ends):
    """Masks of answers: the start, and each time those that are one change further off.

    The last one is the first with some of the ends; it is 0 if there is none.
    """
    found = [start]
    seen = start
    while found[-1] != 0 and found[-1] & ends == 0:
        fresh = by_one_change(found[-1], sides) & base & ~seen
        seen = seen | fresh
        found.append(fresh)
    return found


def island_mask(base, sides, start):
    """The mask of all answers that are together with those of the start."""
    return sum(layers_from(base, sides, start, 0))


def shortest_way(base, sides, start, ends):
    """The numbers of the rows of a shortest way from the start, one row, to some of the ends; None if there is none."""
    layers = layers_from(base, sides, start, ends)
    if layers[-1] == 0:
        return None
    way = [lowest_bit(layers[-1] & ends)]
    for at in reversed(range(len(layers) - 1)):
        way.append(lowest_bit(by_one_change(way[-1], sides) & layers[at]))
    return [mask.bit_length() - 1 for mask in way[::-1]]
