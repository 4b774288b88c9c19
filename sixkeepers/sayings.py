"""Which relations facts of a stock can say, and what bars the others."""

from sixkeepers.bounds import MAX_ARITY, MAX_FACTS, MAX_SMALL, MAX_UNKNOWNS
from sixkeepers.closing import all_rows, numbered_row
from sixkeepers.errors import NotOne, Unfit
from sixkeepers.forms import are_unknowns, is_ascending, is_between, is_fact, is_tuple_of
from sixkeepers.grouping import joined
from sixkeepers.keepers import keeps_all
from sixkeepers.masks import all_mask, columns, columns_of, facts_mask, kept_mask, let_mask, side_masks, stock_mask

MAX_THINGS = 3


def are_gadget_facts(stock, unknowns, value):
    """Whether the value is an ascending tuple of facts of the stock."""
    if not isinstance(value, tuple):
        return False
    return all([is_fact(stock, unknowns, fact) for fact in value]) and is_ascending(value)


def gadget_error(stock, value):
    """None for a gadget of the stock, otherwise what is wrong with the value."""
    if not is_tuple_of(value, 3):
        return "gadget"
    unknowns, facts, places = value
    if not is_between(unknowns, 1, MAX_SMALL):
        return "unknowns"
    if not are_gadget_facts(stock, unknowns, facts):
        return "facts"
    if not are_unknowns(places, unknowns) or not 1 <= len(places) <= MAX_ARITY:
        return "seen"
    return None


def gadget_relation(stock, gadget):
    """The relation that the gadget says."""
    unknowns, facts, places = gadget
    sides = side_masks(unknowns)
    mask = facts_mask(stock, facts, sides, all_mask(unknowns))
    arity = len(places)
    return (arity, tuple([row for row in all_rows(arity) if let_mask((row,), places, sides, mask) != 0]))


def constant_keeper(stock):
    """The operation of one thing and one value that keeps the stock, None if neither does."""
    for operation in ((0, 0), (1, 1)):
        if keeps_all(operation, stock):
            return operation
    return None


def stock_masks(stock):
    """The masks of the operations of one, two and three things that keep the stock."""
    return [stock_mask(stock, many) for many in range(1, MAX_THINGS + 1)]


def first_bar(masks, relation):
    """The first operation of the masks that does not keep the relation, None if all do."""
    for many, mask in enumerate(masks, start=1):
        rest = mask ^ kept_mask(relation, many, mask)
        if rest != 0:
            lowest = (rest & -rest).bit_length() - 1
            return numbered_row(lowest, 1 << many)
    return None


def broken_by(stock, relation):
    """An operation that bars the relation, None if the stock can say it."""
    if len(relation[1]) == 0:
        # Every operation keeps it, but one value for all lets some row in.
        return constant_keeper(stock)
    return first_bar(stock_masks(stock), relation)


def sayable(stock, relation):
    """Whether the stock can say the relation."""
    return broken_by(stock, relation) is None


def subsets(rows):
    """All tuples of some of the rows, in their order."""
    found = [()]
    for row in rows:
        found = found + [chosen + (row,) for chosen in found]
    return found


def all_sayable(stock, places):
    """All relations of so many places that the stock can say, ascending."""
    masks = stock_masks(stock)
    found = []
    for chosen in sorted(subsets(all_rows(places))):
        relation = (places, chosen)
        if len(chosen) == 0:
            bar = constant_keeper(stock)
        else:
            bar = first_bar(masks, relation)
        if bar is None:
            found.append(relation)
    return tuple(found)


def around(stock, rows):
    """The least relation with the rows that the stock can say, and a gadget that says it.

    Each unknown of the gadget is the value of an operation at one index; the
    facts say that the operation keeps the stock.
    """
    facts = []
    for index, relation in enumerate(stock):
        for places in columns(relation[1], len(rows)):
            facts.append((index, places))
    gadget = (1 << len(rows), tuple(sorted(facts)), columns_of(rows))
    return (gadget_relation(stock, gadget), gadget)


def drawn_lots(case, gadgets):
    """For each unknown of the case the least one of those that are drawn together with it."""
    lots = list(range(case[1]))
    for index, unknowns in case[2]:
        firsts = {}
        for unknown, spot in zip(unknowns, gadgets[index][2]):
            if spot in firsts:
                lots = joined(lots, firsts[spot], unknown)
            else:
                firsts[spot] = unknown
    return lots


def hidden_unknowns(gadget):
    """The unknowns of the gadget that do not stand in its seen."""
    return [unknown for unknown in range(gadget[0]) if unknown not in gadget[2]]


def stand_ins(gadget, spots, begin):
    """For each unknown of the gadget what stands for it: in seen the spots, else new ones from begin on."""
    shown = {unknown: spot for unknown, spot in zip(gadget[2], spots)}
    new = {unknown: begin + number for number, unknown in enumerate(hidden_unknowns(gadget))}
    return {**shown, **new}


def check_gadgets(case, stock, gadgets):
    """Raises NotOne for the first relation of the case that its gadget does not say."""
    for index, relation in enumerate(case[0]):
        if gadget_relation(stock, gadgets[index]) != relation:
            raise NotOne(index)


def expanded(case, stock, gadgets):
    """The case in which each fact is put as its gadget says it, and where its unknowns stand there."""
    check_gadgets(case, stock, gadgets)
    lots = drawn_lots(case, gadgets)
    leasts = sorted(set(lots))
    spots = tuple([leasts.index(lot) for lot in lots])
    unknowns = len(leasts)
    facts = {}
    for index, places in case[2]:
        gadget = gadgets[index]
        names = stand_ins(gadget, [spots[place] for place in places], unknowns)
        unknowns = unknowns + len(hidden_unknowns(gadget))
        for other, parts in gadget[1]:
            facts[(other, tuple([names[part] for part in parts]))] = True
    if unknowns > MAX_UNKNOWNS or len(facts) > MAX_FACTS:
        raise Unfit()
    return ((stock, unknowns, tuple(facts)), spots)
