"""Answers that are unlike in just one unknown, one change at a time."""


def changed(row, unknown):
    """The row with the value of the unknown changed."""
    return row[:unknown] + (1 - row[unknown],) + row[unknown + 1:]


def unlike_places(one, other):
    """The places at which the rows are unlike, ascending."""
    return [place for place in range(len(one)) if one[place] != other[place]]


class Hopper:
    """For each unknown of a case its facts: a change of it can break no others."""

    def __init__(self, case):
        self.near = [[] for _ in range(case[1])]
        for index, places in case[2]:
            for unknown in sorted(set(places)):
                self.near[unknown].append((places, case[0][index][1]))

    def can_change(self, row, unknown):
        """Whether the answer stays an answer if the value of the unknown is changed."""
        other = changed(row, unknown)
        for places, rows in self.near[unknown]:
            if tuple([other[place] for place in places]) not in rows:
                return False
        return True

    def first_change(self, row, unknowns):
        """The first of the unknowns whose value can be changed in the answer, None if there is none."""
        for unknown in unknowns:
            if self.can_change(row, unknown):
                return unknown
        return None


def toward(hopper, row, goal):
    """Answers from this one on, each with one unknown more as in the goal, till there is none further."""
    walked = [row]
    unknown = hopper.first_change(row, unlike_places(row, goal))
    while unknown is not None:
        walked.append(changed(walked[-1], unknown))
        unknown = hopper.first_change(walked[-1], unlike_places(walked[-1], goal))
    return tuple(walked)


def fallen(hopper, row):
    """Answers from this one on, each with one unknown more that is 0, till there is none further."""
    return toward(hopper, row, (0,) * len(row))


def risen(hopper, row):
    """Answers from this one on, each with one unknown more that is 1, till there is none further."""
    return toward(hopper, row, (1,) * len(row))
