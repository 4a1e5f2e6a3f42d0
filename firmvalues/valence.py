"""What can come: the values that are told in a standing or in one that it leads to."""

from firmvalues.errors import NoStep, NotReached
from firmvalues.graph import MOST_STANDINGS, reach, shortest_run, told_ahead
from firmvalues.inputs import is_whole
from firmvalues.standings import told_in


class Outlook:
    """The graph of a program from an input; `ahead` has for each number the values that can come."""

    def __init__(self, program, entry, *, most=MOST_STANDINGS):
        self.graph = reach(program, entry, most=most)
        self.program = tuple(program)
        self.entry = tuple(entry)
        self.ahead = told_ahead(self.graph)
        self._telling = _telling_numbers(self.graph)

    def number_at(self, standing):
        number = self.graph.number_of(standing)
        if number is None:
            raise NotReached(standing)
        return number

    def values_at(self, standing):
        return self.ahead[self.number_at(standing)]

    def is_two_way(self, standing):
        return len(self.values_at(standing)) > 1

    def two_way_standings(self):
        standings = self.graph.standings
        return tuple([standings[number] for number in range(len(standings)) if len(self.ahead[number]) > 1])

    def way_to(self, standing):
        return self.graph.run_to(self.number_at(standing))

    def way_to_value(self, standing, value):
        begin = self.number_at(standing)
        if not is_whole(value):
            return None
        found = shortest_run(self.graph.arcs, begin, self._telling.get(value, {}))
        return None if found is None else found[0]

    def narrowing(self, run):
        number = 0
        values = [self.ahead[number]]
        for house in run:
            number = number_behind(self.graph, number, house)
            values.append(self.ahead[number])
        return tuple(values)

    def sealed_after(self, run):
        values = self.narrowing(run)
        for steps in range(len(values)):
            if len(values[steps]) < 2:
                return steps
        return None


def _telling_numbers(graph):
    """For each value that is told the numbers of the standings in which it is."""
    telling = {}
    for number in range(len(graph.standings)):
        for value in told_in(graph.standings[number]):
            if value not in telling:
                telling[value] = {}
            telling[value][number] = True
    return telling


def number_behind(graph, number, house):
    """The number of the standing behind the step of any house at all."""
    for mover, other in graph.arcs[number]:
        if is_whole(house) and mover == house:
            return other
    raise NoStep(house)
