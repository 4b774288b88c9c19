"""Numbers that are drawn together into groups."""


def joined(groups, one, other):
    """The groups in which those of both numbers are one.

    Groups tell for each number the least one of its group.
    """
    low = min(groups[one], groups[other])
    return [low if group in (groups[one], groups[other]) else group for group in groups]
