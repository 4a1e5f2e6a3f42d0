"""Programs of all kinds to try the points on, and plain second reckonings of how they run."""

import random

from firmvalues.books import Book
from firmvalues.compiled import compiled_program
from firmvalues.falls import Falls
from firmvalues.outcomes import Outcomes, decide
from firmvalues.tables import HouseTable
from firmvalues.verdicts import Endless, Unlike, Unproposed
from reckon import all_families, inputs_of, lots_of, rows

NO_NUMBERS = (True, False, None, -1, "0", 0.5, (0,))


def drawn_table(drawn, n, m, states, done=0.35):
    """A table that looks at the cells: some places decide, some go to a state, some keep theirs."""
    entries = []
    for state in range(states):
        for others in rows([None, *range(3)], n - 1):
            dice = drawn.random()
            if dice < done:
                entries.append((state, others, ("done", drawn.randrange(m))))
            elif dice < 0.8:
                entries.append((state, others, drawn.randrange(states)))
    return HouseTable(n, states, [drawn.randrange(states) for _ in range(m)], entries)


def meeting_program(drawn, n, m):
    """Each house shows its value and decides by all values as soon as it has seen enough of them."""
    wanted = drawn.randint(1, n)
    pick = drawn.choice([min, max])

    def table(house):
        entries = []
        for state in range(m):
            for others in rows([None, *range(m)], n - 1):
                seen = [state] + [value for value in others if value is not None]
                if len(seen) >= wanted:
                    entries.append((state, others, ("done", pick(seen))))
        return HouseTable(n, m, list(range(m)), entries)
    return tuple(table(house) for house in range(n))


def waiting_program(drawn, n, m):
    """Nobody ever decides; some houses walk through their states."""
    tables = []
    for _ in range(n):
        states = drawn.randint(1, 2)
        entries = [(state, others, drawn.randrange(states)) for state in range(states)
                   for others in rows([None, 0, 1], n - 1)]
        tables.append(HouseTable(n, states, [drawn.randrange(states) for _ in range(m)], entries))
    return tuple(tables)


def adopting_program(drawn, n, m):
    """A house decides what it holds once it sees enough others that hold it and none that does not; else it changes."""
    tables = []
    for _ in range(n):
        wanted = drawn.randint(1, n - 1)
        entries = []
        for state in range(m):
            for others in rows([None, *range(m)], n - 1):
                seen = [cell for cell in others if cell is not None]
                if set(seen) <= {state}:
                    entries.append((state, others, ("done", state) if len(seen) >= wanted else state))
                else:
                    entries.append((state, others, drawn.choice(seen + [state])))
        tables.append(HouseTable(n, m, list(range(m)), entries))
    return tuple(tables)


def changed_program(drawn, program):
    """The program with one or two moves changed."""
    tables = list(program)
    for _ in range(drawn.randint(1, 2)):
        house = drawn.randrange(len(tables))
        table = tables[house]
        moves = {(state, others): move for state, others, move in table.moves}
        place = drawn.choice(list(moves) + [(drawn.randrange(table.states), (None,) * (table.n - 1))])
        moves[place] = drawn.choice([("done", drawn.randrange(table.m)), drawn.randrange(table.states)])
        tables[house] = HouseTable(table.n, table.states, table.start,
                                   [(state, others, move) for (state, others), move in moves.items()])
    return tuple(tables)


def right_programs(drawn, n, m, falls):
    """Programs that follow the earliest plan of outcomes of a drawn book, with the book, the outcomes and the manner."""
    inputs = inputs_of(n, m)
    while True:
        book = Book(n, m, drawn.sample(inputs, drawn.randint(1, min(6, len(inputs)))))
        manner = drawn.choice(["sure", "cells"])
        outcomes = decide(book, falls, manner)
        if isinstance(outcomes, Outcomes):
            yield compiled_program(book, falls, outcomes, manner), book, outcomes, manner


def drawn_program(drawn, n, m, kind):
    if kind == "drawn":
        states = {2: 3, 3: 2, 4: 1}[n]
        return tuple(drawn_table(drawn, n, m, drawn.randint(1, states)) for _ in range(n))
    if kind == "meet":
        return meeting_program(drawn, n, m)
    if kind == "adopt":
        return adopting_program(drawn, n, m)
    if kind == "wait":
        return waiting_program(drawn, n, m)
    falls = Falls(n, drawn.choice(all_families(n)))
    program = next(right_programs(drawn, n, m, falls))[0]
    return program if kind == "right" else changed_program(drawn, program)


KINDS = ("drawn", "drawn", "meet", "adopt", "wait", "right", "changed")


def some_programs(many, seed, houses=(2, 3), values=(1, 2, 3)):
    drawn = random.Random(seed)
    for n in houses:
        for kind in KINDS:
            for _ in range(many):
                yield drawn_program(drawn, n, drawn.choice([m for m in values if n < 3 or m < 3]), kind)


def step_by(program, standing, house):
    """The standing behind a step, by the words of point 7.7."""
    word, held, cell = standing[house]
    assert word != "done"
    if word == "write":
        seat = ("scan", held, held)
    else:
        move = program[house].next_move(held, tuple(seat[2] for k, seat in enumerate(standing) if k != house))
        seat = ("done", move[1], cell) if isinstance(move, tuple) else ("write", move, cell)
    return tuple(seat if k == house else old for k, old in enumerate(standing))


def begin_by(program, entry):
    return tuple(("write", table.start[value], None) for table, value in zip(program, entry))


def movers(standing):
    return [house for house, seat in enumerate(standing) if seat[0] != "done"]


def told_by(standing):
    return {held for word, held, cell in standing if word == "done"}


def walk_by(program, standing, run):
    for house in run:
        standing = step_by(program, standing, house)
    return standing


class SecondGraph:
    """All standings that runs lead to, level by level, each with the first of its shortest runs."""

    def __init__(self, program, first):
        self.first = first
        self.run = {first: ()}
        self.behind = {}
        level = [first]
        while level:
            found = {}
            for standing in level:
                self.behind[standing] = {house: step_by(program, standing, house) for house in movers(standing)}
                for house, other in self.behind[standing].items():
                    run = self.run[standing] + (house,)
                    if other not in self.run and (other not in found or run < found[other]):
                        found[other] = run
            self.run.update(found)
            level = sorted(found, key=found.get)
        self.order = list(self.behind)

    def led_from(self, standing, without=()):
        seen = {standing}
        left = [standing]
        while left:
            for house, other in self.behind[left.pop()].items():
                if house not in without and other not in seen:
                    seen.add(other)
                    left.append(other)
        return seen

    def can_come(self, standing):
        return {value for other in self.led_from(standing) for value in told_by(other)}

    def all_ahead(self):
        """For each standing the values that can come, carried back along the steps until nothing changes."""
        ahead = {standing: told_by(standing) for standing in self.order}
        changed = True
        while changed:
            changed = False
            for standing in reversed(self.order):
                more = set().union(ahead[standing], *[ahead[other] for other in self.behind[standing].values()])
                if more != ahead[standing]:
                    ahead[standing] = more
                    changed = True
        return ahead


def shortest_by(graph, begin, found, without=()):
    """The first of the shortest runs from a standing to one that is wanted, by trying whole levels of runs."""
    runs = {begin: ()}
    level = {begin: ()}
    while level:
        good = [run for standing, run in level.items() if found(standing)]
        if good:
            return min(good)
        behind = {}
        for standing, run in level.items():
            for house, other in graph.behind[standing].items():
                if house not in without and other not in runs:
                    behind[other] = min(behind.get(other, (9,)), run + (house,))
        runs.update(behind)
        level = behind
    return None


def is_stuck_by(graph, falls):
    """True if some lot that is let can fall so that the others go round for ever and one of them at least is not done.

    For each lot: among the standings in which nobody of it is done, with the steps of the others alone, two that lead
    to one another and between which each of the others that is not done takes a step.
    """
    for lot in lots_of(falls.n):
        if falls.lets(lot):
            whole = [standing for standing in graph.order if all(standing[house][0] != "done" for house in lot)]
            ahead = {standing: graph.led_from(standing, lot) for standing in whole}
            for standing in whole:
                tied = [other for other in ahead[standing] if standing in ahead[other]]
                moving = {house for one in tied for house, other in graph.behind[one].items()
                          if house not in lot and other in tied}
                if moving and moving == {house for house in movers(standing) if house not in lot}:
                    return True
    return False


def unsafe_by(graph, entry):
    """The class and the run of the first standing behind which two values or a value of nobody are told."""
    for standing in graph.order:
        told = told_by(standing)
        if len(told) > 1:
            return Unlike(entry, graph.run[standing])
        if not told <= set(entry):
            return Unproposed(entry, graph.run[standing])
    return None


def shows_by(program, falls, fault):
    """True if walking a fault bears it out, by the words of point 8.4."""
    standing = walk_by(program, begin_by(program, fault.entry), fault.run)
    if isinstance(fault, Unlike):
        return len(told_by(standing)) > 1
    if isinstance(fault, Unproposed):
        return not told_by(standing) <= set(fault.entry)
    assert isinstance(fault, Endless)
    fallen = set(fault.fallen)
    others = set(movers(standing)) - fallen
    return (len(fault.loop) > 0 and fault.fallen == tuple(sorted(fallen)) and fallen <= set(movers(standing))
            and falls.lets(fault.fallen) and not fallen & set(fault.loop) and set(fault.loop) == others
            and walk_by(program, standing, fault.loop) == standing)



def counters(n, states):
    """Each house walks through its states for ever, whatever the others do: (2 * states + 1) ** n standings."""
    entries = [(state, others, (state + 1) - states * (state == states - 1))
               for state in range(states) for others in rows([None, *range(states)], n - 1)]
    return (HouseTable(n, states, [0], entries),) * n


def long_way():
    """Two houses: house 0 walks up and down its 40 states, once for each state of house 1: thousands of steps."""
    fast, slow = [], []
    for state in range(40):
        for cell in [None, *range(40)]:
            if cell is not None and cell % 2:
                fast.append((state, (cell,), max(state - 1, 0)))
            else:
                fast.append((state, (cell,), min(state + 1, 39)))
        move = state + 1 if state < 39 else ("done", 0)
        slow.append((state, (0 if state % 2 else 39,), move))
    return HouseTable(2, 40, [0], fast), HouseTable(2, 40, [0], slow)
