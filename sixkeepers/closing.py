"""What operations make of rows, again and again.

A row stands here for its number, the one that its items write in twos, the
first item first: so numbers ascend as their rows do, and one bit operation
goes over all places of a row at once. The number of a row of ones is called
full.
"""


def row_number(row):
    """The number that the items of the row write in twos."""
    number = 0
    for item in row:
        number = 2 * number + item
    return number


def numbered_row(number, many):
    """The row of many items that has the number."""
    return tuple([(number >> (many - 1 - place)) & 1 for place in range(many)])


def all_rows(many):
    """All rows of many items, ascending."""
    return [numbered_row(number, many) for number in range(1 << many)]


def bits_of(number):
    """The places of the bits of the number that are 1, ascending."""
    return tuple([bit for bit in range(number.bit_length()) if (number >> bit) & 1 == 1])


def thing_count(operation):
    """Of how many things the operation is."""
    return len(operation).bit_length() - 1


def spread_values(operation, full):
    """The values of the operation, each of them at all places at once."""
    return tuple([full if value == 1 else 0 for value in operation])


def folded(values, number):
    """What is left of the values when the first thing is the row of the number."""
    half = len(values) // 2
    return tuple([(values[k] & ~number) | (values[half + k] & number) for k in range(half)])


def applied(operation, numbers, full):
    """The number of the row that the operation gives of as many rows as it has things."""
    values = spread_values(operation, full)
    for number in numbers:
        values = folded(values, number)
    return values[0]


def further_heads(heads, known):
    """The heads with one more thing given; of alike ones only the first."""
    found = {}
    for values, parts in heads.items():
        for number in known:
            left = folded(values, number)
            if left not in found:
                found[left] = parts + (number,)
    return found


def heads_of(operation, known, full):
    """What the operation becomes if all of its things but the last are known numbers.

    Returns a dict from pairs, what it gives of a last row of zeros and of one
    of ones, to the numbers that lead there. Many numbers lead to one pair, so
    this is far less than all that could be given.
    """
    heads = {spread_values(operation, full): ()}
    for _ in range(thing_count(operation) - 1):
        heads = further_heads(heads, known)
    return heads


def results(operation, known, full):
    """All numbers that the operation gives of known ones, each with such ones, in order."""
    found = {}
    shadows = {}
    for (zero, one), parts in heads_of(operation, known, full).items():
        # The last thing matters only at the places where zero and one differ.
        turned = zero ^ one
        if turned not in shadows:
            shadows[turned] = {number & turned: number for number in known}
        for shadow, number in shadows[turned].items():
            made = zero ^ shadow
            if made not in found:
                found[made] = parts + (number,)
    return found


def closure(starts, operations, full, wanted):
    """All numbers that the operations make of starts, or some that lead to the wanted one.

    Returns a dict from each number to None, for starts, or to a pair (index,
    numbers) of an operation that gives it and of what; these numbers stand
    ahead of it in the dict.
    """
    found = {number: None for number in starts}
    at = 0
    idle = 0
    while idle < len(operations) and len(found) <= full and wanted not in found:
        given = results(operations[at], list(found), full)
        fresh = {number: (at, given[number]) for number in given if number not in found}
        found = {**found, **fresh}
        idle = 0 if len(fresh) > 0 else idle + 1
        at = at + 1 if at + 1 < len(operations) else 0
    return found
