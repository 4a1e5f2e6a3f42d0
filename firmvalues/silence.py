"""Silent runs: a lot that is let takes no step, and the others go round."""

from firmvalues.errors import BadLot, NotLet, UnlikeHouse
from firmvalues.falls import check_lot
from firmvalues.foe import go_round
from firmvalues.inputs import as_tuples, differing
from firmvalues.standings import first_standing, last_standing, told_in
from firmvalues.tables import check_program
from firmvalues.verdicts import Endless, Unproposed


class Settled:
    """A run from an input behind which all houses that stepped are done, and the values told there."""

    def __init__(self, entry, run, told):
        self.entry = as_tuples(entry)
        self.run = as_tuples(run)
        self.told = as_tuples(told)

    def __eq__(self, other):
        return (isinstance(other, Settled) and self.entry == other.entry and self.run == other.run
                and self.told == other.told)


def _checked_let(falls, lot):
    try:
        checked = check_lot(falls.n, lot)
    except BadLot:
        raise NotLet(lot) from None
    if not falls.lets(checked):
        raise NotLet(lot)
    return checked


def silent_run(program, falls, entry, lot):
    tables = check_program(program)
    begin = first_standing(tables, entry)
    silent = _checked_let(falls, lot)
    rounds = go_round(tables, begin, [house for house in range(len(tables)) if house not in silent])
    if len(rounds.loop) > 0:
        return Endless(entry, rounds.run, rounds.loop, silent)
    return Settled(entry, rounds.run, told_in(last_standing(tables, begin, rounds.run)))


def unheard_run(program, falls, entry, lot, other):
    silent = silent_run(program, falls, entry, lot)
    first_standing(program, other)
    for house in differing(entry, other):
        if house not in lot:
            raise UnlikeHouse(house)
    if isinstance(silent, Endless):
        return silent
    if any([value not in other for value in silent.told]):
        return Unproposed(other, silent.run)
    return Settled(other, silent.run, silent.told)
