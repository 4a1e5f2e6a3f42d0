"""Graphs: all standings that the runs of a program lead to."""

from firmvalues.errors import NoStanding, TooMany
from firmvalues.inputs import as_tuples, is_sequence, is_whole
from firmvalues.standings import behind_step, check_standing, first_standing, steppers_of, told_in
from firmvalues.tables import check_program

MOST_STANDINGS = 20000


class Graph:
    """Standings by their numbers; number 0 leads to all of them."""

    def __init__(self, standings, arcs, parents):
        self.standings = tuple(standings)
        self.arcs = tuple(arcs)
        self.parents = tuple(parents)
        self._numbers = {self.standings[number]: number for number in range(len(self.standings))}

    def number_of(self, standing):
        if not _is_row_of_seats(standing):
            return None
        return self._numbers.get(as_tuples(standing))

    def run_to(self, number):
        _check_number(self, number)
        return run_along(self.parents, number)


def _is_row_of_seats(thing):
    """What is none cannot be looked up among the standings; a truth in it would pass for 0 or 1."""
    return is_sequence(thing) and all([_is_seat(seat) for seat in thing])


def _is_seat(seat):
    if not is_sequence(seat) or len(seat) != 3 or not isinstance(seat[0], str):
        return False
    return is_whole(seat[1]) and (seat[2] is None or is_whole(seat[2]))


def _check_number(graph, number):
    if not is_whole(number, 0, len(graph.standings) - 1):
        raise NoStanding(number)


def run_along(parents, number):
    """The run to a number by the couples (number, house) of the steps that met each number first."""
    run = []
    at = number
    while parents[at] is not None:
        at, house = parents[at]
        run.append(house)
    return tuple(reversed(run))


def reach_from(program, standing, *, most=MOST_STANDINGS):
    tables = check_program(program)
    return _graph_from(tables, check_standing(tables, standing), most)


def reach(program, entry, *, most=MOST_STANDINGS):
    tables = check_program(program)
    return _graph_from(tables, first_standing(tables, entry), most)


def _graph_from(tables, first, most):
    numbers = {first: 0}
    standings = [first]
    parents = [None]
    arcs = []
    while len(arcs) < len(standings):
        number = len(arcs)
        standing = standings[number]
        steps = []
        for house in steppers_of(standing):
            behind = behind_step(tables, standing, house)
            if behind not in numbers:
                if len(standings) >= most:
                    raise TooMany(most)
                numbers[behind] = len(standings)
                standings.append(behind)
                parents.append((number, house))
            steps.append((house, numbers[behind]))
        arcs.append(tuple(steps))
    return Graph(standings, arcs, parents)


def shortest_run(arcs, first, targets):
    """The couple (run, number) of the shortest run from a number to one of the targets, of several the first in order.

    None if no target is reached.
    """
    parents = {first: None}
    waiting = [first]
    at = 0
    while at < len(waiting):
        number = waiting[at]
        at += 1
        if number in targets:
            return run_along(parents, number), number
        for house, other in arcs[number]:
            if other not in parents:
                parents[other] = (number, house)
                waiting.append(other)
    return None


def led_from(graph, number):
    _check_number(graph, number)
    seen = {number: True}
    waiting = [number]
    while len(waiting) > 0:
        at = waiting.pop()
        for _, other in graph.arcs[at]:
            if other not in seen:
                seen[other] = True
                waiting.append(other)
    return tuple(sorted(seen))


class Walk:
    """A walk in depth along the arcs, as Tarjan does it; it keeps its own path, as paths may be thousands long."""

    def __init__(self, arcs):
        self.arcs = arcs
        self.met = {}
        self.low = {}
        self.path = []
        self.unplaced = []
        self.place_of = {}
        self.placed = {}
        self.groups = []

    def meet(self, number):
        self.met[number] = len(self.met)
        self.low[number] = self.met[number]
        self.path.append([number, 0])
        self.place_of[number] = len(self.unplaced)
        self.unplaced.append(number)

    def go_on(self):
        number, at = self.path[-1]
        if at == len(self.arcs[number]):
            self.leave(number)
            return
        self.path[-1][1] = at + 1
        _, other = self.arcs[number][at]
        if other not in self.met:
            self.meet(other)
        elif other not in self.placed:
            self.low[number] = min(self.low[number], self.met[other])

    def leave(self, number):
        self.path.pop()
        if len(self.path) > 0:
            above = self.path[-1][0]
            self.low[above] = min(self.low[above], self.low[number])
        if self.low[number] == self.met[number]:
            begin = self.place_of[number]
            group = self.unplaced[begin:]
            del self.unplaced[begin:]
            for member in group:
                self.placed[member] = True
            self.groups.append(tuple(sorted(group)))


def _groups_ends_first(graph):
    """The tied groups, each behind all others that it leads to."""
    walk = Walk(graph.arcs)
    walk.meet(0)
    while len(walk.path) > 0:
        walk.go_on()
    return walk.groups


def tied_groups(graph):
    return tuple(sorted(_groups_ends_first(graph)))


def moving_in(graph, group):
    within = {number: True for number in group}
    return tuple(sorted(set([house for number in group for house, other in graph.arcs[number] if other in within])))


def told_ahead(graph):
    ahead = {}
    for group in _groups_ends_first(graph):
        values = _values_ahead(graph, group, ahead)
        for number in group:
            ahead[number] = values
    return tuple([ahead[number] for number in range(len(graph.standings))])


def _values_ahead(graph, group, ahead):
    """The values of a group; `ahead` has those of all other numbers that it leads to."""
    values = {}
    for number in group:
        for value in told_in(graph.standings[number]):
            values[value] = True
        for _, other in graph.arcs[number]:
            for value in ahead.get(other, ()):
                values[value] = True
    return tuple(sorted(values))


def told_values(program, entry, *, most=MOST_STANDINGS):
    standings = reach(program, entry, most=most).standings
    # Number 0 leads to all of them.
    return tuple(sorted(set([value for standing in standings for value in told_in(standing)])))
