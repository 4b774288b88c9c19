"""Shells, that answer lines about a desk."""

from sixkeepers.bounds import MAX_HISTORY
from sixkeepers.counting import count
from sixkeepers.deeds import DIGITS, is_name
from sixkeepers.errors import KeeperError, NoUnknown

WHAT = "what"
# How many numbers stand behind the word of each line that edits, but for that of names.
NUMBERS = {"add": 1, "put": 2, "drop": 1, "undo": 0, "back": 1}
MOST_DIGITS = 3


def read_number(word):
    """The number that the word writes, None if it writes none."""
    if len(word) > MOST_DIGITS or not all([sign in DIGITS for sign in word]):
        return None
    return None if word[0] == "0" and len(word) > 1 else int(word)


def read_unknowns(desk, words):
    """The unknowns with these names."""
    desk.check_free()
    names = desk.names
    for word in words:
        if word not in names:
            raise NoUnknown(word)
    return tuple([names.index(word) for word in words])


def placed(desk, word, numbers, names):
    """The version behind a line about a fact, None if what should be names is none."""
    if len(names) == 0 or not all([is_name(name) for name in names]):
        return None
    places = read_unknowns(desk, names)
    if word == "add":
        return desk.add(numbers[0], places)
    return desk.put(numbers[0], numbers[1], places)


def named(desk, words):
    """The version behind a line about a name, None if it is none."""
    if len(words) != 3 or not is_name(words[1]):
        return None
    return desk.name(read_unknowns(desk, words[1:2])[0], words[2])


def edited(desk, words):
    """The version behind a line that edits, None if it is none."""
    word = words[0]
    if word == "name":
        return named(desk, words)
    if word not in NUMBERS:
        return None
    many = NUMBERS[word]
    numbers = [read_number(each) for each in words[1:1 + many]]
    rest = words[1 + many:]
    if len(numbers) < many or None in numbers:
        return None
    if word in ("add", "put"):
        return placed(desk, word, numbers, rest)
    if len(rest) > 0:
        return None
    if word == "undo":
        return desk.undo()
    return desk.drop(numbers[0]) if word == "drop" else desk.back(numbers[0])


def facts_line(desk):
    """The facts, with the names of their places."""
    names = desk.names
    facts = [" ".join([str(index)] + [names[place] for place in places]) for index, places in desk.facts]
    return ", ".join(facts) if len(facts) > 0 else "nothing"


def answer_line(desk):
    """The first answer."""
    row = desk.first()
    return "none" if row is None else "".join([str(item) for item in row])


def forced_line(desk):
    """The names of the unknowns with one value in all answers, and these."""
    pairs = desk.forced()
    if pairs is None:
        return "none"
    names = desk.names
    return " ".join([f"{names[unknown]}={value}" for unknown, value in pairs]) if len(pairs) > 0 else "nothing"


def shown(desk, words):
    """The answer to a line that asks, None if it is none."""
    if len(words) > 1:
        return None
    word = words[0]
    if word == "facts":
        return facts_line(desk)
    if word == "answer":
        return answer_line(desk)
    if word == "forced":
        return forced_line(desk)
    if word == "count":
        return str(count(desk.case))
    if word == "news":
        return desk.news
    return str(desk) if word == "text" else None


def answered(desk, words):
    """The answer to a line of these words."""
    if len(words) == 0:
        return WHAT
    version = edited(desk, words)
    if version is not None:
        return f"ok {version}"
    told = shown(desk, words)
    return WHAT if told is None else told


class Shell:
    """Answers lines, and works on the desk that it is given."""

    def __init__(self, desk):
        self._desk = desk
        self._said = []

    @property
    def desk(self):
        """The desk on which the shell works."""
        return self._desk

    @property
    def history(self):
        """The last pairs of a line and its answer; None stands for a line that was no string."""
        return tuple(self._said)

    def say(self, line):
        """The answer to the line, which is any value."""
        told = self._answer(line)
        said = (line if isinstance(line, str) else None, told)
        self._said = (self._said + [said])[-MAX_HISTORY:]
        return told

    def _answer(self, line):
        """The answer to the line, also if an error comes of it."""
        if not isinstance(line, str):
            return WHAT
        try:
            return answered(self._desk, [word for word in line.split(" ") if word != ""])
        except KeeperError as error:
            return "no " + type(error).__name__
