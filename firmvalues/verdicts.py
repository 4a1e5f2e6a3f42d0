"""Verdicts: whether a program is right, and the faults that show that it is not."""

from firmvalues.errors import BadManner, NoStep, UnlikeHouses, UnlikeValues
from firmvalues.graph import MOST_STANDINGS, moving_in, reach, shortest_run, tied_groups
from firmvalues.inputs import all_inputs, as_tuples, is_entry, is_sequence, is_whole
from firmvalues.standings import first_standing, last_standing, steppers_of, told_in
from firmvalues.tables import check_program


class Unlike:
    """A run from an input behind which two unlike values are decided."""

    def __init__(self, entry, run):
        self.entry = as_tuples(entry)
        self.run = as_tuples(run)

    def __eq__(self, other):
        return isinstance(other, Unlike) and self.entry == other.entry and self.run == other.run


class Unproposed:
    """A run from an input behind which a value is decided that no house has in the input."""

    def __init__(self, entry, run):
        self.entry = as_tuples(entry)
        self.run = as_tuples(run)

    def __eq__(self, other):
        return isinstance(other, Unproposed) and self.entry == other.entry and self.run == other.run


class Endless:
    """A run from an input and a loop behind it, with the lot of the houses that have fallen by then."""

    def __init__(self, entry, run, loop, fallen):
        self.entry = as_tuples(entry)
        self.run = as_tuples(run)
        self.loop = as_tuples(loop)
        self.fallen = as_tuples(fallen)

    def __eq__(self, other):
        return (isinstance(other, Endless) and self.entry == other.entry and self.run == other.run
                and self.loop == other.loop and self.fallen == other.fallen)


def _shows_unproposed(entry, told):
    return any([value not in entry for value in told])


def unsafe_at(graph, entry):
    for number in range(len(graph.standings)):
        told = told_in(graph.standings[number])
        if len(told) > 1:
            return Unlike(entry, graph.run_to(number))
        if _shows_unproposed(entry, told):
            return Unproposed(entry, graph.run_to(number))
    return None


def endless_at(graph, entry, falls):
    for group in tied_groups(graph):
        moving = moving_in(graph, group)
        standing = graph.standings[group[0]]
        fallen = tuple([house for house in steppers_of(standing) if house not in moving])
        if len(moving) > 0 and falls.lets(fallen):
            return Endless(entry, graph.run_to(group[0]), _loop_through(graph, group, moving), fallen)
    return None


def _loop_through(graph, group, moving):
    """Steps within a tied group from its first standing back to it, among them one of each moving house."""
    within = {number: True for number in group}
    arcs = {number: [arc for arc in graph.arcs[number] if arc[1] in within] for number in group}
    loop = []
    at = group[0]
    for house in moving:
        if house not in loop:
            ahead = {number: True for number in group if house in [mover for mover, _ in arcs[number]]}
            run, last = shortest_run(arcs, at, ahead)
            at = dict(arcs[last])[house]
            loop.extend([*run, house])
    run, _ = shortest_run(arcs, at, {group[0]: True})
    return (*loop, *run)


def check_judged(program, book, falls, manner):
    """Returns the program as a tuple; raises what `judge_program` raises ahead of its search."""
    tables = check_program(program)
    if len(tables) != book.n or len(tables) != falls.n:
        raise UnlikeHouses()
    if tables[0].m != book.m:
        raise UnlikeValues()
    if manner not in ("sure", "cells"):
        raise BadManner(manner)
    return tables


def judge_program(program, book, falls, manner, *, most=MOST_STANDINGS):
    tables = check_judged(program, book, falls, manner)
    inputs = book.inputs if manner == "sure" else all_inputs(book.n, book.m)
    for entry in inputs:
        graph = reach(tables, entry, most=most)
        fault = unsafe_at(graph, entry)
        if fault is None and entry in book:
            fault = endless_at(graph, entry, falls)
        if fault is not None:
            return fault
    return None


def fault_error(program, book, falls, manner, fault):
    tables = check_judged(program, book, falls, manner)
    if not isinstance(fault, (Unlike, Unproposed, Endless)):
        return "kind"
    if not _is_judged_input(book, manner, fault):
        return "input"
    standing = _behind_run(tables, first_standing(tables, fault.entry), fault.run)
    if standing is None:
        return "run"
    if isinstance(fault, Endless):
        return _endless_error(tables, falls, fault, standing)
    told = told_in(standing)
    shown = len(told) > 1 if isinstance(fault, Unlike) else _shows_unproposed(fault.entry, told)
    return None if shown else "told"


def _is_judged_input(book, manner, fault):
    if manner == "sure" or isinstance(fault, Endless):
        return fault.entry in book
    return is_entry(book.n, book.m, fault.entry)


def _behind_run(tables, standing, run):
    """The standing behind a run, None if the run is none or cannot be taken."""
    if not is_sequence(run):
        return None
    try:
        return last_standing(tables, standing, run)
    except NoStep:
        return None


def _endless_error(tables, falls, fault, standing):
    steppers = steppers_of(standing)
    if not _are_fallen(falls, fault.fallen, steppers):
        return "fallen"
    if not is_sequence(fault.loop) or len(fault.loop) == 0:
        return "loop"
    if _behind_run(tables, standing, fault.loop) != standing or any([house in fault.fallen for house in fault.loop]):
        return "loop"
    starved = [house for house in steppers if house not in fault.fallen and house not in fault.loop]
    return "starved" if len(starved) > 0 else None


def _are_fallen(falls, fallen, steppers):
    if not is_sequence(fallen) or not all([is_whole(house) and house in steppers for house in fallen]):
        return False
    return list(fallen) == sorted(set(fallen)) and falls.lets(fallen)
