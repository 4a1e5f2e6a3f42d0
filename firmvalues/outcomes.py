"""Outcomes of a book, or the clash that shows that there are none."""

from firmvalues.errors import BadOrder, NotInBook, NoWay
from firmvalues.firmness import first_unfit, fitting_values
from firmvalues.inputs import as_tuples, holds_each_once, is_sequence, is_whole, is_whole_row
from firmvalues.linking import linked_groups


class Outcomes:
    """The inputs of a book and their values, in the same order."""

    def __init__(self, inputs, told):
        self.inputs = as_tuples(inputs)
        self.told = as_tuples(told)
        self._places = _places_in(self.inputs)

    def __eq__(self, other):
        return isinstance(other, Outcomes) and self.inputs == other.inputs and self.told == other.told

    def value_of(self, entry):
        if not is_whole_row(entry) or tuple(entry) not in self._places:
            raise NotInBook(entry)
        return self.told[self._places[tuple(entry)]]

    def cut_to(self, book):
        return Outcomes(book.inputs, [self.value_of(entry) for entry in book.inputs])


def _places_in(inputs):
    """Nothing of what Outcomes are given is checked, so what is no input has no place here."""
    if not is_sequence(inputs):
        return {}
    return {inputs[at]: at for at in range(len(inputs)) if is_whole_row(inputs[at])}


class Clash:
    """A tree of linked inputs, and for each value an input of it that the value does not fit."""

    def __init__(self, manner, tree, fails):
        self.manner = manner
        self.tree = as_tuples(tree)
        self.fails = as_tuples(fails)

    def __eq__(self, other):
        return (isinstance(other, Clash) and self.manner == other.manner and self.tree == other.tree
                and self.fails == other.fails)


def inputs_of_tree(tree):
    return [entry for entry, _ in tree]


def decide(book, falls, manner, order=None):
    trees = linked_groups(book, falls, manner)
    if order is not None and not holds_each_once(order, book.m):
        raise BadOrder()
    wanted = tuple(range(book.m)) if order is None else order
    told = {}
    for tree in trees:
        inputs = inputs_of_tree(tree)
        good = fitting_values(falls, manner, inputs)
        if len(good) == 0:
            return _clash_of(falls, manner, tree, book.m)
        first = [value for value in wanted if value in good][0]
        for entry in inputs:
            told[entry] = first
    return Outcomes(book.inputs, [told[entry] for entry in book.inputs])


def _clash_of(falls, manner, tree, values):
    inputs = inputs_of_tree(tree)
    return Clash(manner, tree, [inputs[first_unfit(falls, manner, inputs, value)] for value in range(values)])


def groups_with_values(book, falls, manner):
    """The couples (inputs, values that fit them all) of all groups, in the order of the groups."""
    groups = []
    for tree in linked_groups(book, falls, manner):
        inputs = inputs_of_tree(tree)
        groups.append((inputs, fitting_values(falls, manner, inputs)))
    return groups


def _product_of_ways(groups):
    many = 1
    for _, values in groups:
        many = many * len(values)
    return many


def count_ways(book, falls, manner):
    return _product_of_ways(groups_with_values(book, falls, manner))


def outcomes_at(book, falls, manner, number):
    groups = groups_with_values(book, falls, manner)
    if not is_whole(number, 0, _product_of_ways(groups) - 1):
        raise NoWay(number)
    return _way_at(book, groups, number)


def _way_at(book, groups, number):
    """The first group is the slowest, as its least input is told first."""
    told = {}
    left = number
    for inputs, values in reversed(groups):
        value = values[left % len(values)]
        left = left // len(values)
        for entry in inputs:
            told[entry] = value
    return Outcomes(book.inputs, [told[entry] for entry in book.inputs])


def each_way(book, falls, manner):
    groups = groups_with_values(book, falls, manner)
    for number in range(_product_of_ways(groups)):
        yield _way_at(book, groups, number)


def trimmed_clash(clash):
    tree = as_tuples(clash.tree)
    fails = as_tuples(clash.fails)
    kept = _kept_places(tree, fails)
    new_places = {kept[at]: at for at in range(len(kept))}
    couples = []
    for place in kept:
        entry, parent = tree[place]
        couples.append((entry, new_places[parent] if len(couples) > 0 else None))
    return Clash(clash.manner, couples, fails)


def _kept_places(tree, fails):
    """The places of the couples on the ways between inputs of fails.

    The last place with all of these inputs at or below it is where the ways meet; what is above it is on none.
    """
    named = {entry: True for entry in fails}
    below = [1 if entry in named else 0 for entry, _ in tree]
    for place in reversed(range(1, len(tree))):
        parent = tree[place][1]
        below[parent] = below[parent] + below[place]
    top = max([place for place in range(len(tree)) if below[place] == len(named)])
    return [place for place in range(len(tree)) if below[place] > 0 and place >= top]
