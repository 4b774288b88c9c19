"""What follows from the facts of a case, and from which of them."""

from sixkeepers.bounds import MAX_SEEN
from sixkeepers.clauses import placed_clause, primes
from sixkeepers.closing import numbered_row
from sixkeepers.errors import NoAnswers, Unfit
from sixkeepers.forms import are_places
from sixkeepers.grouping import joined
from sixkeepers.lots import bars_barely, full_lot, least_barring, least_missing, lets, letting, lot_solver, rest_of
from sixkeepers.lots import shrunk, without
from sixkeepers.solving import firm_case_word, firm_solver, refute, way_word


def open_solver(case):
    """The solver for a case within reach that has answers; TooHard or NoAnswers for another one."""
    solver = firm_solver(case)
    if not solver.can(()):
        raise NoAnswers(refute(case))
    return solver


def missing_pair(solver, unknown):
    """The pair of the unknown and a value that no answer has, None if there is none."""
    for value in (0, 1):
        if not solver.can(((unknown, value),)):
            return (unknown, value)
    return None


def forced_pairs(solver, unknowns):
    """The pairs of all unknowns that have one value in all answers, of which there are some."""
    missing = [missing_pair(solver, unknown) for unknown in range(unknowns)]
    return tuple([(pair[0], 1 - pair[1]) for pair in missing if pair is not None])


def forced(case):
    """The pairs of all unknowns that have one value in all answers."""
    return forced_pairs(open_solver(case), case[1])


def turn_between(solver, one, other):
    """0 if both unknowns have the same value in all answers, 1 if in none, None if neither is so."""
    for turn in (0, 1):
        if not any([solver.can(((one, value), (other, 1 - (value ^ turn)))) for value in (0, 1)]):
            return turn
    return None


def with_unknown(solver, classes, unknown):
    """The classes with the unknown in that to which it is bound, or in one of its own."""
    for index, pairs in enumerate(classes):
        turn = turn_between(solver, pairs[0][0], unknown)
        if turn is not None:
            return classes[:index] + [pairs + ((unknown, turn),)] + classes[index + 1:]
    return classes + [((unknown, 0),)]


def alike(case):
    """The classes of the unknowns that are bound to one another."""
    solver = open_solver(case)
    classes = []
    for unknown in range(case[1]):
        classes = with_unknown(solver, classes, unknown)
    return tuple([pairs for pairs in classes if len(pairs) > 1])


def rows_at(solver, places):
    """All rows of values that answers have at the places, ascending."""
    unknowns = sorted(set(places))
    found = []
    for number in range(1 << len(unknowns)):
        known = tuple(zip(unknowns, numbered_row(number, len(unknowns))))
        if solver.can(known):
            values = dict(known)
            found.append(tuple([values[unknown] for unknown in places]))
    return tuple(sorted(found))


def seen_rows(case, places):
    """All rows of values that answers have at the places, ascending."""
    return rows_at(firm_solver(case), places)


def refusals(relation, places):
    """Tuples of pairs of an unknown and a value; a row has none of the relation's rows at the places just
    if it has all the values of some tuple.
    """
    placed = [placed_clause(clause, places) for clause in primes(relation)]
    found = []
    for clause in placed:
        if clause is not None:
            found.append(tuple([(unknown, 0) for unknown in clause[0]] + [(unknown, 1) for unknown in clause[1]]))
    return found


def holds_always(solver, relation, places):
    """Whether each answer has one of the rows of the relation at the places."""
    return not any([solver.can(pairs) for pairs in refusals(relation, places)])


def follows(case, relation, places):
    """Whether each answer of the case has one of the rows of the relation at the places."""
    return holds_always(firm_solver(case), relation, places)


def against(case, relation, places):
    """An answer that has none of the rows of the relation at the places, None if there is none."""
    solver = firm_solver(case)
    for pairs in refusals(relation, places):
        row = solver.row(pairs, 0)
        if row is not None:
            return row
    return None


def fact_follows(word, case, lot, number):
    """Whether the fact of this number follows from the lot."""
    index, places = case[2][number]
    return holds_always(lot_solver(word, case, lot), case[0][index], places)


def needless(case):
    """The numbers of all facts that follow from all other facts."""
    word = firm_case_word(case)
    full = full_lot(case)
    return tuple([number for number in full if fact_follows(word, case, without(full, number), number)])


def trimmed(case):
    """The lot that is left if, from the last fact on, each that follows from the others still there is left out."""
    word = firm_case_word(case)
    lot = full_lot(case)
    for number in reversed(range(len(case[2]))):
        less = without(lot, number)
        if fact_follows(word, case, less, number):
            lot = less
    return lot


def piece_groups(case):
    """For each unknown the least one of its piece."""
    groups = list(range(case[1]))
    for _, places in case[2]:
        for unknown in places[1:]:
            groups = joined(groups, places[0], unknown)
    return groups


def pieces(case):
    """The unknowns and the facts of each piece of the case."""
    groups = piece_groups(case)
    found = []
    for group in sorted(set(groups)):
        unknowns = tuple([unknown for unknown in range(case[1]) if groups[unknown] == group])
        lot = tuple([number for number, fact in enumerate(case[2]) if groups[fact[1][0]] == group])
        found.append((unknowns, lot))
    return tuple(found)


def unknowns_of(case, lot):
    """The unknowns that stand in the facts of the lot, each as often as it does."""
    return [unknown for number in lot for unknown in case[2][number][1]]


def between(case, lot):
    """The seam of the lot, and the rows that the answers of its case have there."""
    word = firm_case_word(case)
    seam = tuple(sorted(set(unknowns_of(case, lot)) & set(unknowns_of(case, rest_of(case, lot)))))
    if len(seam) > MAX_SEEN:
        raise Unfit()
    return (seam, rows_at(lot_solver(word, case, lot), seam))


def core(case):
    """A core of the case, None if it has answers."""
    word = way_word(case)
    return None if lets(word, case, full_lot(case), ()) else shrunk(word, case, ())


def core_holds(case, value):
    """Whether the value is a core of the case."""
    word = way_word(case)
    return are_places(value, len(case[2])) and bars_barely(word, case, value, ())


def drop_holds(case, value):
    """Whether the value is a drop of the case."""
    word = way_word(case)
    if not are_places(value, len(case[2])) or not lets(word, case, rest_of(case, value), ()):
        return False
    # The more facts, the fewer answers: so one fact back is enough to look at.
    return not any([lets(word, case, rest_of(case, without(value, number)), ()) for number in value])


def cores(case):
    """All cores of the case, ascending."""
    return least_barring(letting(way_word(case), case, ()))


def drops(case):
    """All drops of the case, ascending."""
    return least_missing(letting(way_word(case), case, ()))


def fewest_drop(case):
    """The first of the drops with the fewest facts."""
    return min([(len(lot), lot) for lot in drops(case)])[1]


def reason(case, unknown):
    """A reason for the unknown, None if it is not forced."""
    missing = missing_pair(open_solver(case), unknown)
    return None if missing is None else shrunk(firm_case_word(case), case, (missing,))


def reasons(case, unknown):
    """All reasons for the unknown, ascending."""
    missing = missing_pair(open_solver(case), unknown)
    if missing is None:
        return ()
    return least_barring(letting(firm_case_word(case), case, (missing,)))


def reason_holds(case, unknown, value):
    """Whether the value is a reason for the unknown."""
    missing = missing_pair(open_solver(case), unknown)
    if missing is None or not are_places(value, len(case[2])):
        return False
    return bars_barely(firm_case_word(case), case, value, (missing,))
