"""How a clash breaks each program, and the outcomes of a program that no clash breaks."""

from firmvalues.errors import BadManner, SureHouse
from firmvalues.firmness import fits, hiding_lot
from firmvalues.foe import endless_by_foe
from firmvalues.graph import told_values
from firmvalues.inputs import as_tuples, differing
from firmvalues.linking import linked_groups
from firmvalues.outcomes import Outcomes
from firmvalues.silence import silent_run, unheard_run
from firmvalues.splitting import refuse_wrong_clash
from firmvalues.tables import check_program
from firmvalues.valence import Outlook
from firmvalues.verdicts import Unproposed, check_judged


class Broken:
    """The link at which a program breaks, and the fault that shows it."""

    def __init__(self, link, fault):
        self.link = as_tuples(link)
        self.fault = fault

    def __eq__(self, other):
        return isinstance(other, Broken) and self.link == other.link and self.fault == other.fault


def break_program(program, book, falls, clash):
    refuse_wrong_clash(book, falls, clash)
    if clash.manner == "letters":
        raise BadManner(clash.manner)
    tables = check_program(program)
    tree = as_tuples(clash.tree)
    values = {}
    for entry, _ in tree:
        values[entry] = told_values(tables, entry)
        if len(values[entry]) != 1:
            return _broken_ways(tables, falls, entry)
    broken = _first_edge(tables, falls, tree, values)
    if broken is not None:
        return broken
    value = values[tree[0][0]][0]
    return _broken_value(tables, falls, as_tuples(clash.fails)[value], value)


def _broken_ways(tables, falls, entry):
    """An input from which no value can come, or two."""
    outlook = Outlook(tables, entry)
    if len(outlook.ahead[0]) == 0:
        return Broken(("ways", entry), silent_run(tables, falls, entry, ()))
    return Broken(("ways", entry), endless_by_foe(outlook, falls))


def _first_edge(tables, falls, tree, values):
    """What breaks the program at the first input of a tree whose value differs from its parent's."""
    for entry, parent in tree:
        if parent is not None and values[entry] != values[tree[parent][0]]:
            other = tree[parent][0]
            return Broken(("edge", entry, other), silent_run(tables, falls, entry, differing(entry, other)))
    return None


def _broken_value(tables, falls, entry, value):
    """An input from which one value alone can come, which does not fit it."""
    link = ("value", entry, value)
    if value not in entry:
        outlook = Outlook(tables, entry)
        return Broken(link, Unproposed(entry, outlook.way_to_value(outlook.graph.standings[0], value)))
    other = 1 if value == 0 else 0
    changed = tuple([other if held == value else held for held in entry])
    return Broken(link, unheard_run(tables, falls, entry, hiding_lot(falls, entry, value), changed))


def outcomes_or_break(program, book, falls, manner):
    tables = check_judged(program, book, falls, manner)
    sure = falls.sure
    if len(sure) > 0:
        raise SureHouse(sure[0])
    values = {}
    for entry in book.inputs:
        values[entry] = told_values(tables, entry)
        if len(values[entry]) != 1:
            return _broken_ways(tables, falls, entry)
    for tree in linked_groups(book, falls, manner):
        broken = _first_edge(tables, falls, tree, values)
        if broken is not None:
            return broken
    for entry in book.inputs:
        if not fits(falls, manner, entry, values[entry][0]):
            return _broken_value(tables, falls, entry, values[entry][0])
    return Outcomes(book.inputs, [values[entry][0] for entry in book.inputs])
