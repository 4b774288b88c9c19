"""Relations and cases as texts, and back."""

from sixkeepers.bounds import MAX_ARITY, MAX_FACTS, MAX_STOCK, MAX_UNKNOWNS
from sixkeepers.errors import BadText
from sixkeepers.forms import is_between, is_fact, is_stocked, relation_error


def relation_text(relation):
    """The text of the relation."""
    arity, rows = relation
    words = ["".join([str(item) for item in row]) for row in rows]
    return " ".join([f"{arity}:"] + words)


def case_text(case):
    """The text of the case."""
    stock, unknowns, facts = case
    lines = [f"unknowns {unknowns}"]
    for relation in stock:
        lines.append("relation " + relation_text(relation))
    for index, places in facts:
        lines.append(" ".join(["fact"] + [str(number) for number in (index,) + places]))
    return "\n".join(lines)


def check_text(value):
    """Raises BadText if the value is no string."""
    if not isinstance(value, str):
        raise BadText(None)


def read_relation(words):
    """The relation whose text has these words, None if there is none."""
    arities = {f"{arity}:": arity for arity in range(1, MAX_ARITY + 1)}
    items = {"0": 0, "1": 1}
    rows = tuple([tuple([items.get(sign) for sign in word]) for word in words[1:]])
    relation = (arities.get(words[0]), rows)
    return relation if relation_error(relation) is None else None


def parse_relation(value):
    """The relation whose text the value is."""
    check_text(value)
    relation = read_relation(value.split(" "))
    if relation is None:
        raise BadText(0)
    return relation


def read_numbers(words):
    """What numbers the words write, with None for words that write none that a case may have."""
    # Looked up rather than reckoned: so each number has just one way of writing.
    numbers = {str(number): number for number in range(MAX_UNKNOWNS + 1)}
    return tuple([numbers.get(word) for word in words])


def read_unknowns(line):
    """The number of unknowns that the line tells."""
    words = line.split(" ")
    numbers = read_numbers(words[1:])
    if words[0] != "unknowns" or len(numbers) != 1 or not is_between(numbers[0], 1, MAX_UNKNOWNS):
        raise BadText(0)
    return numbers[0]


def read_stocked(line):
    """The relation that the line puts into a stock, None if it does not."""
    words = line.split(" ")
    if words[0] != "relation" or len(words) == 1:
        return None
    relation = read_relation(words[1:])
    return relation if is_stocked(relation) else None


def read_stock(lines):
    """As many relations of a stock as the first of the lines tell."""
    stock = ()
    for line in lines[:MAX_STOCK]:
        relation = read_stocked(line)
        if relation is None:
            return stock
        stock = stock + (relation,)
    return stock


def read_fact(line, stock, unknowns):
    """The fact that the line tells, None if there is none."""
    words = line.split(" ")
    numbers = read_numbers(words[1:])
    if words[0] != "fact" or len(numbers) == 0:
        return None
    fact = (numbers[0], numbers[1:])
    return fact if is_fact(stock, unknowns, fact) else None


def parse_case(value):
    """The case whose text the value is."""
    check_text(value)
    lines = value.split("\n")
    unknowns = read_unknowns(lines[0])
    stock = read_stock(lines[1:])
    # A line that is neither one of the relations nor a fact ends here, too:
    # without relations no fact can stand, so the line behind the first is wrong.
    begin = 1 + len(stock)
    if begin == 1:
        raise BadText(1)
    facts = []
    for number in range(begin, len(lines)):
        fact = read_fact(lines[number], stock, unknowns)
        if fact is None or len(facts) == MAX_FACTS:
            raise BadText(number)
        facts.append(fact)
    return (stock, unknowns, tuple(facts))
