"""Runs over cells that are read one by one: houses fall and wake, and decide as soon as they can."""

from firmvalues.cells import Cells
from firmvalues.collects import Collector
from firmvalues.deciders import check_cell_manner, told_at
from firmvalues.errors import NoDeed
from firmvalues.inputs import check_entry, is_whole, row_with, unheard_houses

DEEDS = ("step", "fall", "wake")


class CellRun:
    """Each house has a cell for its value and one for its decision; deeds change the run."""

    def __init__(self, book, falls, outcomes, manner, entry):
        check_cell_manner(manner)
        self.entry = check_entry(book.n, book.m, entry)
        self.n = book.n
        self.book = book
        self.falls = falls
        self.outcomes = outcomes
        self.manner = manner
        self.course = ()
        self.fallen = ()
        self._values = Cells(book.n)
        self._told = Cells(book.n)
        self._collectors = [Collector(book.n, own=house) for house in range(book.n)]
        self._heard = [(None,) * book.n for _ in range(book.n)]
        # What a house has decided and why, as soon as it has, told or not.
        self._chosen = [None] * book.n
        self._reasons = [None] * book.n

    @property
    def written(self):
        return self._values.shown

    @property
    def decisions(self):
        return self._told.shown

    @property
    def grounds(self):
        told = self._told.shown
        return tuple([None if told[house] is None else self._reasons[house] for house in range(self.n)])

    def next_of(self, house):
        if house in self.fallen:
            return "fallen"
        if self._values.read(house) is None:
            return "write"
        if self._told.read(house) is not None:
            return "done"
        return "read" if self._chosen[house] is None else "tell"

    def heard_view(self, house):
        return self._heard[house]

    def waiting_for(self, house):
        if self.next_of(house) in ("tell", "done"):
            return ()
        return unheard_houses(self._heard[house])

    def do_deed(self, deed):
        word, house = deed
        self._check_deed(word, house)
        if word == "step":
            self._do_step(house)
        elif word == "fall":
            self.fallen = tuple(sorted([*self.fallen, house]))
        else:
            self._do_wake(house)
        self.course = (*self.course, (word, house))

    def step(self, house):
        self.do_deed(("step", house))

    def fall(self, house):
        self.do_deed(("fall", house))

    def wake(self, house):
        self.do_deed(("wake", house))

    def _check_deed(self, word, house):
        if word not in DEEDS:
            raise NoDeed("word", house)
        if not is_whole(house, 0, self.n - 1):
            raise NoDeed("house", house)
        if word != "wake" and house in self.fallen:
            raise NoDeed("fallen", house)
        if word == "wake" and house not in self.fallen:
            raise NoDeed("awake", house)
        if word == "step" and self.next_of(house) == "done":
            raise NoDeed("done", house)

    def _do_step(self, house):
        what = self.next_of(house)
        if what == "write":
            self._values.write(house, self.entry[house])
            self._hear(house, house)
            if self.manner == "sure":
                self._decide_at(house, self._heard[house])
        elif what == "tell":
            self._told.write(house, self._chosen[house])
        else:
            self._do_read(house)

    def _do_read(self, house):
        collector = self._collectors[house]
        other = collector.turn
        collects = len(collector.full)
        heard = self._heard[house]
        collector.read_from(self._values)
        self._hear(house, other)
        if self._told.read(other) is not None:
            self._chosen[house] = self._told.read(other)
            self._reasons[house] = ("told", other)
        elif self.manner == "sure":
            # A view that settled nothing before settles nothing now.
            if self._heard[house] != heard:
                self._decide_at(house, self._heard[house])
        elif len(collector.full) > collects and collector.stable_view() is not None:
            self._decide_at(house, row_with(collector.stable_view(), house, self.entry[house]))

    def _hear(self, house, other):
        self._heard[house] = row_with(self._heard[house], other, self._values.read(other))

    def _decide_at(self, house, view):
        value = told_at(self.book, self.falls, self.outcomes, self.manner, view)
        if value is not None:
            self._chosen[house] = value
            self._reasons[house] = ("view", view)

    def _do_wake(self, house):
        self.fallen = tuple([other for other in self.fallen if other != house])
        self._collectors[house].forget()
        self._heard[house] = (None,) * self.n
        self._hear(house, house)
        if self._told.read(house) is None:
            self._chosen[house] = None
            self._reasons[house] = None
            if self.manner == "sure" and self._values.read(house) is not None:
                self._decide_at(house, self._heard[house])

    def stand_as(self, run):
        """Makes a run that is new stand as another one does, over the same book and input."""
        self.course = run.course
        self.fallen = run.fallen
        for house in range(self.n):
            if run.written[house] is not None:
                self._values.write(house, run.written[house])
            if run.decisions[house] is not None:
                self._told.write(house, run.decisions[house])
            _copy_collects(self._collectors[house], run._collectors[house])
            self._heard[house] = run._heard[house]
            self._chosen[house] = run._chosen[house]
            self._reasons[house] = run._reasons[house]


def _copy_collects(collector, other):
    collector.turn = other.turn
    collector.so_far = other.so_far
    collector.full = other.full


def cell_run_of(book, falls, outcomes, manner, entry, course):
    run = CellRun(book, falls, outcomes, manner, entry)
    for deed in course:
        run.do_deed(deed)
    return run


def twin_of(run):
    twin = CellRun(run.book, run.falls, run.outcomes, run.manner, run.entry)
    twin.stand_as(run)
    return twin


def finished_run(run):
    finished = twin_of(run)
    for _ in range(4 * run.n):
        for house in range(run.n):
            if finished.next_of(house) not in ("fallen", "done"):
                finished.step(house)
    return finished
