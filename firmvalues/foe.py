"""The foe: it picks steps behind which two values can still come, or shows that the program is wrong."""

from firmvalues.errors import NoHouse, OneWay, SureHouse
from firmvalues.graph import run_along
from firmvalues.inputs import as_tuples, is_whole
from firmvalues.standings import behind_step
from firmvalues.valence import number_behind
from firmvalues.verdicts import Endless, Unlike


class Rounds:
    """A run and the loop that goes on from where it leads; the loop is () if the houses are done there."""

    def __init__(self, run, loop):
        self.run = as_tuples(run)
        self.loop = as_tuples(loop)

    def __eq__(self, other):
        return isinstance(other, Rounds) and self.run == other.run and self.loop == other.loop


class Onward:
    """A run of the foe: it ends with a step of the house and leads to a two-way standing."""

    def __init__(self, run):
        self.run = as_tuples(run)

    def __eq__(self, other):
        return isinstance(other, Onward) and self.run == other.run


def go_round(program, standing, lot):
    houses = sorted(set(lot))
    at = as_tuples(standing)
    steps = []
    begun = {}
    while at not in begun:
        begun[at] = len(steps)
        steppers = [house for house in houses if at[house][0] != "done"]
        for house in steppers:
            at = behind_step(program, at, house)
        steps.extend(steppers)
    return Rounds(steps[:begun[at]], steps[begun[at]:])


def _refuse_sure(falls):
    sure = falls.sure
    if len(sure) > 0:
        raise SureHouse(sure[0])


def foes_step(outlook, falls, standing, house):
    _refuse_sure(falls)
    number = outlook.number_at(standing)
    if not is_whole(house, 0, len(outlook.program) - 1):
        raise NoHouse(house)
    if len(outlook.ahead[number]) < 2:
        raise OneWay(outlook.ahead[number])
    return _foes_answer(outlook, number, house)


def _foes_answer(outlook, number, house):
    """What the foe does at a two-way standing: Onward, or the fault that is there if it can do nothing."""
    parents, last = _search_without(outlook, number, house)
    if last is not None:
        return Onward((*run_along(parents, last), house))
    return _foes_fault(outlook, number, house, parents)


def _search_without(outlook, number, house):
    """The couple (parents, last): the walk without the house, up to where its step leads to a two-way standing.

    `parents` has for each number met the couple (number, house) of the step that met it; `last` is None, and all that
    can be reached is met, if the step leads to no two-way standing.
    """
    parents = {number: None}
    waiting = [number]
    at = 0
    while at < len(waiting):
        reached = waiting[at]
        at += 1
        for mover, other in outlook.graph.arcs[reached]:
            if mover == house and len(outlook.ahead[other]) > 1:
                return parents, reached
            if mover != house and other not in parents:
                parents[other] = (reached, mover)
                waiting.append(other)
    return parents, None


def _foes_fault(outlook, number, house, parents):
    """The fault of a program at whose two-way standing the foe has no step of the house."""
    graph = outlook.graph
    standing = graph.standings[number]
    begin = graph.run_to(number)
    if standing[house][0] == "done":
        other = [value for value in outlook.ahead[number] if value != standing[house][1]][0]
        return Unlike(outlook.entry, begin + outlook.way_to_value(standing, other))
    for reached in parents:
        if len(_values_behind(outlook, reached, house)) == 0:
            return _endless_by_all(outlook, begin + run_along(parents, reached) + (house,))
    reached, mover = _turning_step(outlook, parents, house)
    return _endless_without_reader(outlook, begin + run_along(parents, reached), reached, house, mover)


def _turning_step(outlook, parents, house):
    """The first couple (number, mover) such that the step of the mover turns the value that the house's step leaves.

    There is one: one value is left at each of these numbers, and not the same one at all of them.
    """
    return [(number, mover) for number in parents for mover, other in outlook.graph.arcs[number] if mover != house
            and _values_behind(outlook, number, house) != _values_behind(outlook, other, house)][0]


def _number_along(outlook, number, run):
    last = number
    for house in run:
        last = number_behind(outlook.graph, last, house)
    return last


def _values_behind(outlook, number, house):
    return outlook.ahead[number_behind(outlook.graph, number, house)]


def _endless_by_all(outlook, run):
    """The fault of a run behind which no value can come: then no house is ever done."""
    return _endless_by(outlook, run, list(range(len(outlook.program))), ())


def _endless_by(outlook, run, lot, hidden):
    standing = outlook.graph.standings[_number_along(outlook, 0, run)]
    rounds = go_round(outlook.program, standing, lot)
    fallen = [house for house in hidden if standing[house][0] != "done"]
    return Endless(outlook.entry, run + rounds.run, rounds.loop, fallen)


def _endless_without_reader(outlook, run, number, house, mover):
    """The fault where a step of the mover turns the one value that the step of the house leaves.

    Both orders of the two steps look alike to all but the one that scans, so the rest can tell neither value.
    """
    standing = outlook.graph.standings[number]
    reader = house if standing[house][0] == "scan" else mover
    rest = [other for other in range(len(standing)) if other != reader]
    return _endless_by(outlook, run + (house, mover), rest, (reader,))


def endless_by_foe(outlook, falls):
    _refuse_sure(falls)
    if len(outlook.ahead[0]) < 2:
        raise OneWay(outlook.ahead[0])
    number = 0
    steps = []
    begun = {}
    while number not in begun:
        begun[number] = len(steps)
        for house in range(len(outlook.program)):
            answer = _foes_answer(outlook, number, house)
            if not isinstance(answer, Onward):
                return answer
            number = _number_along(outlook, number, answer.run)
            steps.extend(answer.run)
    return Endless(outlook.entry, steps[:begun[number]], steps[begun[number]:], ())
