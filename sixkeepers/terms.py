"""Which operations are made of others, and what bars the rest.

An operation of so many things is here the row of its values; its number is
that of this row.
"""

from sixkeepers.closing import all_rows, applied, closure, numbered_row, row_number, thing_count
from sixkeepers.forms import bounded_error, is_between, is_tuple_of
from sixkeepers.keepers import keeps

MAX_BARRING = 8


def plain_things(many):
    """The numbers of the operations of many things that give a thing itself, the first thing first."""
    return [row_number([row[thing] for row in all_rows(many)]) for thing in range(many)]


def reached(operations, many, wanted):
    """The closure of the things themselves under the operations, as in closing."""
    return closure(plain_things(many), operations, (1 << (1 << many)) - 1, wanted)


def needed_for(found, wanted):
    """The numbers that lead to the wanted one, itself among them, those ahead of others first."""
    needed = {wanted: True}
    for number in reversed(list(found)):
        if number in needed and found[number] is not None:
            for part in found[number][1]:
                needed[part] = True
    return [number for number in found if number in needed]


def steps_to(found, wanted, many):
    """Steps of many things, the last of which is the wanted one."""
    spots = {number: thing for thing, number in enumerate(plain_things(many))}
    steps = []
    for number in needed_for(found, wanted):
        if found[number] is not None:
            index, parts = found[number]
            steps.append((index, tuple([spots[part] for part in parts])))
            spots[number] = many + len(steps) - 1
    return tuple(steps)


def made(operations, operation):
    """Steps that make the operation, or a relation that bars it."""
    many = thing_count(operation)
    wanted = row_number(operation)
    found = reached(operations, many, wanted)
    if wanted in found:
        return ("steps", steps_to(found, wanted, many))
    # Laid on the things themselves the operation gives itself, which is none of these rows.
    places = 1 << many
    return ("barred", (places, tuple([numbered_row(number, places) for number in sorted(found)])))


def all_made(operations, many):
    """All operations of many things that are made by the operations, ascending."""
    found = reached(operations, many, None)
    return tuple([numbered_row(number, 1 << many) for number in sorted(found)])


def is_step(operations, value, ahead):
    """Whether the value is a step behind so many things and steps."""
    if not is_tuple_of(value, 2) or not is_between(value[0], 0, len(operations) - 1):
        return False
    index, parts = value
    if not is_tuple_of(parts, thing_count(operations[index])):
        return False
    return all([is_between(part, 0, ahead - 1) for part in parts])


def steps_hold(operations, operation, value):
    """Whether the value is steps, the last of which is the operation."""
    if not isinstance(value, tuple):
        return False
    many = thing_count(operation)
    numbers = plain_things(many)
    wanted = row_number(operation)
    if len(value) == 0:
        return wanted in numbers
    full = (1 << (1 << many)) - 1
    for step in value:
        if not is_step(operations, step, len(numbers)):
            return False
        index, parts = step
        numbers.append(applied(operations[index], [numbers[part] for part in parts], full))
    return numbers[-1] == wanted


def all_keep(operations, relation):
    """Whether all of the operations keep the relation."""
    for operation in operations:
        if not keeps(operation, relation):
            return False
    return True


def bars(operations, operation, value):
    """Whether the value is a relation that all of the operations keep and the operation does not."""
    if bounded_error(value, MAX_BARRING) is not None:
        return False
    return not keeps(operation, value) and all_keep(operations, value)


def made_holds(operations, operation, value):
    """Whether the value shows that the operation is made, or that it is barred."""
    if not is_tuple_of(value, 2):
        return False
    word, paper = value
    if word == "steps":
        return steps_hold(operations, operation, paper)
    return word == "barred" and bars(operations, operation, paper)
