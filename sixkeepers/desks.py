"""Desks, on which the facts of a case are edited."""

from sixkeepers.bounds import HISTORY, MAX_FACTS, MAX_HARD, MAX_UNKNOWNS
from sixkeepers.deeds import behind_batch, behind_deed, check_number, first_names, shifted
from sixkeepers.errors import BadStock, Busy, KeeperError, NoAnswers, NoNumber, NotOne, NothingToUndo, NoVersion
from sixkeepers.errors import TooHard, TooManyEdits, Unfit
from sixkeepers.follows import forced_pairs
from sixkeepers.forms import is_between, is_fact, stock_error
from sixkeepers.keepers import way
from sixkeepers.pages import NEWS, Page, news_between
from sixkeepers.solvers import firm_word
from sixkeepers.solving import refute


def check_reach(stock, unknowns):
    """Raises TooHard if a case of the stock with so many unknowns is not within reach."""
    if unknowns > MAX_HARD and firm_word(stock) is None:
        raise TooHard(unknowns)


class Desk:
    """A case that is edited, with names for its unknowns."""

    def __init__(self, stock, unknowns):
        error = stock_error(stock)
        if error is not None:
            raise BadStock(error)
        if not is_between(unknowns, 1, MAX_UNKNOWNS):
            raise NoNumber(unknowns)
        check_reach(stock, unknowns)
        word = way(stock)
        self._way = "search" if word is None else word
        self._page = Page((stock, unknowns, ()), first_names(unknowns))
        self._past = []
        self._news = "same"
        self._watchers = []
        self._watched = 0
        self._busy = False
        self._step = None

    @property
    def stock(self):
        """The relations of which the facts are."""
        return self._page.matter[0]

    @property
    def unknowns(self):
        """How many unknowns there are."""
        return self._page.matter[1]

    @property
    def facts(self):
        """The facts, in their order."""
        return self._page.lines

    @property
    def case(self):
        """The case as it is now."""
        return self._page.matter

    @property
    def names(self):
        """The names of the unknowns."""
        return self._page.labels

    @property
    def version(self):
        """How many edits stand."""
        return len(self._past)

    @property
    def news(self):
        """What the last edit, undo or back has made of the answers."""
        return self._news

    def is_open(self):
        """Whether the case has an answer."""
        return self._page.is_open()

    def first(self):
        """The first answer in ascending order, None if there is none."""
        return self._page.solver.row((), 0)

    def forced(self):
        """The pairs of the unknowns that have one value in all answers, None if there is no answer."""
        return forced_pairs(self._page.solver, self.unknowns) if self.is_open() else None

    def check_free(self):
        """Raises Busy while a watcher or on_step runs."""
        if self._busy:
            raise Busy()

    def add(self, index, places):
        """Puts a fact more behind the others; returns the new version, as all edits do."""
        return self._do(("add", index, places))

    def put(self, number, index, places):
        """Puts a fact in the stead of another one."""
        return self._do(("put", number, index, places))

    def drop(self, number):
        """Takes a fact away."""
        return self._do(("drop", number))

    def name(self, unknown, text):
        """Gives the unknown another name."""
        return self._do(("name", unknown, text))

    def batch(self, deeds):
        """Does several edits as one."""
        self.check_free()
        matter, labels = behind_batch(self._page.matter, self._page.labels, deeds)
        return self._edit(matter, labels)

    def undo(self):
        """Takes back the last edit; returns the new version."""
        self.check_free()
        if self.version == 0:
            raise NothingToUndo()
        return self._go_back(self.version - 1)

    def back(self, version):
        """Takes back all edits behind the version, and returns it."""
        self.check_free()
        self._check_version(version)
        return self._go_back(version)

    def at(self, version):
        """The case and the names as they were at the version."""
        self._check_version(version)
        page = self._pages()[version]
        return (page.matter, page.labels)

    def watch(self, word, function):
        """Has the function called with the version whenever the news are this word; returns the watcher's number."""
        if word not in NEWS:
            raise NotOne(word)
        number = self._watched
        self._watchers = self._watchers + [(number, word, function)]
        self._watched = number + 1
        return number

    def unwatch(self, number):
        """Takes the watcher with this number off."""
        kept = [watcher for watcher in self._watchers if watcher[0] != number]
        if not is_between(number, 0, self._watched) or len(kept) == len(self._watchers):
            raise NoNumber(number)
        self._watchers = kept

    def attempt(self, work, on_step):
        """Calls work with the desk; if it raises an error of this package, nothing that was done stays."""
        self.check_free()
        page, past, news, step = self._page, self._past, self._news, self._step
        self._step = on_step
        try:
            return work(self)
        except KeeperError:
            self._page, self._past, self._news = page, past, news
            raise
        finally:
            self._step = step

    def copy(self):
        """Another desk with the same of all but the watchers."""
        other = self._fresh(self.unknowns)
        other._page = self._page
        other._past = self._past
        other._news = self._news
        return other

    def beside(self, other):
        """A desk with the unknowns and facts of this one, and behind them those of the other one."""
        if not isinstance(other, Desk) or other.stock != self.stock:
            raise NotOne(other)
        unknowns = self.unknowns + other.unknowns
        if unknowns > MAX_UNKNOWNS or len(self.facts) + len(other.facts) > MAX_FACTS:
            raise Unfit()
        check_reach(self.stock, unknowns)
        facts = self.facts + shifted(other.facts, self.unknowns)
        page = Page((self.stock, unknowns, facts), first_names(unknowns))
        self._check_page(page)
        desk = self._fresh(unknowns)
        desk._page = page
        return desk

    def _fresh(self, unknowns):
        """A new desk of the same class and the same stock."""
        return Desk(self.stock, unknowns)

    def _check_page(self, page):
        """Raises what the class has against the page: nothing here."""

    def _check_version(self, version):
        """Raises NoVersion if there is no such version."""
        if not is_between(version, 0, self.version):
            raise NoVersion(version)

    def _pages(self):
        """The pages of all versions, the present one last."""
        return self._past + [self._page]

    def _do(self, deed):
        """Does the deed as an edit; returns the new version."""
        self.check_free()
        matter, labels = behind_deed(self._page.matter, self._page.labels, deed)
        return self._edit(matter, labels)

    def _edit(self, matter, labels):
        """Makes them what the desk holds, as an edit; returns the new version."""
        if self.version >= HISTORY:
            raise TooManyEdits()
        page = Page(matter, labels)
        self._check_page(page)
        return self._show(self._pages(), page)

    def _go_back(self, version):
        """Takes back all edits behind the version, and returns it."""
        pages = self._pages()
        return self._show(pages[:version], pages[version])

    def _show(self, past, page):
        """Makes the page the present one behind those past, and calls who is to know of it; returns the version."""
        self._news = news_between(self._page, page)
        self._past = past
        self._page = page
        self._call_all(self.version)
        return self.version

    def _call_all(self, version):
        """Calls the watchers of the news, and on_step."""
        functions = [function for _, word, function in self._watchers if word == self._news]
        if self._step is not None:
            functions.append(self._step)
        self._busy = True
        try:
            for function in functions:
                function(version)
        finally:
            self._busy = False

    def __getitem__(self, number):
        """The fact with this number."""
        check_number(self.case, number)
        return self.facts[number]

    def __contains__(self, value):
        """Whether the value is one of the facts."""
        return is_fact(self.stock, self.unknowns, value) and value in self.facts

    def __len__(self):
        """How many facts there are."""
        return len(self._page.lines)

    def __iter__(self):
        """Goes over the facts in their order."""
        return iter(self._page.lines)

    def __str__(self):
        """A line that tells how much there is."""
        return f"{self.unknowns} unknowns, {len(self.facts)} facts, by {self._way}, version {self.version}"

    def __eq__(self, value):
        """Whether the value is a desk with the same case and names."""
        return isinstance(value, Desk) and self.case == value.case and self.names == value.names


class OpenDesk(Desk):
    """A desk whose case always has an answer."""

    def _fresh(self, unknowns):
        """A new desk of the same class and the same stock."""
        return OpenDesk(self.stock, unknowns)

    def _check_page(self, page):
        """Raises NoAnswers if the page has none."""
        if not page.is_open():
            raise NoAnswers(refute(page.matter))
