"""Islands: the answers that are together, as walks lead from each one to each other one."""

from sixkeepers.closing import bits_of, numbered_row, row_number
from sixkeepers.counting import check_small, goes_by_sums
from sixkeepers.hopping import Hopper, fallen, risen, toward
from sixkeepers.keepers import kept_by
from sixkeepers.layers import by_change_of, island_mask, lowest_bit
from sixkeepers.masks import answers_mask, side_masks
from sixkeepers.solving import firm_or_small_word
from sixkeepers.sums import NEVER, case_sums


def row_island(case, row):
    """The mask of the island of the row, for a small case."""
    return island_mask(answers_mask(case), side_masks(case[1]), 1 << row_number(row))


def rows_of_mask(mask, many):
    """The rows of a mask, ascending."""
    return tuple([numbered_row(number, many) for number in bits_of(mask)])


def are_together(word, case, one, other):
    """Whether both answers are together; word is what makes the case's stock firm, None for a small case."""
    if word is None:
        return row_island(case, one) == row_island(case, other)
    hopper = Hopper(case)
    if word == "both":
        return fallen(hopper, one)[-1] == fallen(hopper, other)[-1]
    if word == "either":
        return risen(hopper, one)[-1] == risen(hopper, other)[-1]
    return toward(hopper, one, other)[-1] == other


def together(case, one, other):
    """Whether both answers are together."""
    return are_together(firm_or_small_word(case), case, one, other)


def low_end(case, row):
    """The answer of the row's island that has 1 just where all of them have 1, None if there is none."""
    if "both" in kept_by(case[0]):
        return fallen(Hopper(case), row)[-1]
    check_small(case)
    island_rows = row_island(case, row)
    end = tuple([1 if island_rows & zeros == 0 else 0 for zeros, _ in side_masks(case[1])])
    return end if (island_rows >> row_number(end)) & 1 == 1 else None


def high_end(case, row):
    """The answer of the row's island that has 0 just where all of them have 0, None if there is none."""
    if "either" in kept_by(case[0]):
        return risen(Hopper(case), row)[-1]
    check_small(case)
    island_rows = row_island(case, row)
    end = tuple([0 if island_rows & ones == 0 else 1 for _, ones in side_masks(case[1])])
    return end if (island_rows >> row_number(end)) & 1 == 1 else None


def island(case, row):
    """The answers that are together with the row, ascending."""
    check_small(case)
    return rows_of_mask(row_island(case, row), case[1])


def all_islands(case):
    """The masks of all islands of a small case, in the order of their first rows."""
    sides = side_masks(case[1])
    rest = answers_mask(case)
    found = []
    while rest != 0:
        found.append(island_mask(rest, sides, lowest_bit(rest)))
        rest = rest ^ found[-1]
    return found


def islands(case):
    """All islands, ascending."""
    check_small(case)
    return tuple([rows_of_mask(mask, case[1]) for mask in all_islands(case)])


def unbound(case, sums):
    """The unknowns that stand in none of the sums, ascending."""
    bound = {place: True for places, _ in sums for place in places}
    return tuple([unknown for unknown in range(case[1]) if unknown not in bound])


def island_count(case):
    """How many islands there are."""
    if not goes_by_sums(case):
        return len(all_islands(case))
    sums = case_sums(case)
    if sums == NEVER:
        return 0
    # Each island has all values of the unbound unknowns, and of the others one row that the sums let.
    return 1 << (case[1] - len(sums) - len(unbound(case, sums)))


def loose(case):
    """The unknowns whose value can be changed in each answer so that it stays an answer."""
    if goes_by_sums(case):
        return unbound(case, case_sums(case))
    sides = side_masks(case[1])
    base = answers_mask(case)
    return tuple([unknown for unknown in range(case[1]) if by_change_of(base, sides, unknown) == base])
