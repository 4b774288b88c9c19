"""Many rows at once, as the bits of one number.

A mask of rows of so many items has, for each of these rows, the bit of the
row's number: 1 if the row is among those that are meant.
"""

from sixkeepers.closing import row_number


def all_mask(many):
    """The mask of all rows of many items."""
    return (1 << (1 << many)) - 1


def side_masks(many):
    """For each place the masks of the rows of many items that have 0 there, and 1."""
    every = all_mask(many)
    sides = []
    for place in range(many):
        # Blocks of as many ones as the place weighs, with as many noughts between them.
        zeros = every // ((1 << (1 << (many - 1 - place))) + 1)
        sides.append((zeros, every ^ zeros))
    return sides


def let_mask(rows, places, sides, mask):
    """The mask of those rows of a mask that have one of rows at the places."""
    found = 0
    for row in rows:
        part = mask
        for place, item in zip(places, row):
            part = part & sides[place][item]
        found = found | part
        if found == mask:
            return mask
    return found


def facts_mask(stock, facts, sides, mask):
    """The mask of those rows of a mask that are let by all of the facts."""
    for index, places in facts:
        mask = let_mask(stock[index][1], places, sides, mask)
    return mask


def answers_mask(case):
    """The mask of the answers of the case."""
    stock, unknowns, facts = case
    return facts_mask(stock, facts, side_masks(unknowns), all_mask(unknowns))


def columns(rows, many):
    """For many of rows, laid under one another in all ways: the numbers of what stands at each place."""
    found = [(0,) * len(row) for row in rows[:1]]
    for _ in range(many):
        found = [tuple([2 * above + item for above, item in zip(head, row)]) for head in found for row in rows]
    return found


def columns_of(rows):
    """The numbers of what stands at each place of rows that are laid under one another."""
    return tuple([row_number(column) for column in zip(*rows)])


def kept_mask(relation, many, mask):
    """The mask of those operations of many things in a mask that keep the relation."""
    rows = relation[1]
    sides = side_masks(1 << many)
    for places in columns(rows, many):
        mask = let_mask(rows, places, sides, mask)
    return mask


def stock_mask(stock, many):
    """The mask of the operations of many things that keep the stock."""
    mask = all_mask(1 << many)
    for relation in stock:
        mask = kept_mask(relation, many, mask)
    return mask
