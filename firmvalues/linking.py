"""Neighbours, near inputs, and the groups that they link."""

from firmvalues.errors import NotInBook, UnlikeHouses
from firmvalues.firmness import check_manner
from firmvalues.inputs import check_entry, differing, is_sequence, is_whole, shown_view


def check_meeting(book, falls):
    if book.n != falls.n:
        raise UnlikeHouses()


def are_neighbours(falls, one, other):
    return one != other and falls.lets(differing(one, other))


def neighbours_of(book, falls, entry):
    check_meeting(book, falls)
    checked = check_entry(book.n, book.m, entry)
    return tuple([other for other in book.inputs if are_neighbours(falls, checked, other)])


def is_split(falls, manner):
    check_manner(manner)
    return manner == "letters" and falls.covering is not None


def are_near(falls, split, one, other):
    """`split` is what `is_split` tells; it is passed so that it is reckoned once for many couples of inputs."""
    return one != other and (split or are_neighbours(falls, one, other))


def inputs_by_view(book, lot):
    """For each view that lacks the lot alone the inputs that go on it; views in the order of their least inputs."""
    shown = [house for house in range(book.n) if house not in lot]
    found = {}
    for entry in book.inputs:
        found.setdefault(shown_view(entry, shown), []).append(entry)
    return found


def near_inputs(book, falls, manner):
    """For each input of the book the ascending list of the inputs near it."""
    near = {entry: {} for entry in book.inputs}
    for circle in _circles(book, falls, manner):
        for entry in circle:
            for other in circle:
                near[entry][other] = True
    return {entry: [other for other in sorted(near[entry]) if other != entry] for entry in book.inputs}


def _circles(book, falls, manner):
    """Lists of inputs such that two unlike inputs are near one another exactly if they are in one of them."""
    if is_split(falls, manner):
        return [book.inputs]
    return [inputs for lot in falls.lots for inputs in inputs_by_view(book, lot).values()]


def linked_groups(book, falls, manner):
    check_meeting(book, falls)
    near = near_inputs(book, falls, manner)
    seen = {}
    trees = []
    for entry in book.inputs:
        if entry not in seen:
            tree = tree_from(near, entry)
            trees.append(tree)
            for other, _ in tree:
                seen[other] = True
    return tuple(trees)


def tree_from(near, entry):
    """The tree of all inputs that are linked with one, level by level."""
    tree = [(entry, None)]
    seen = {entry: True}
    level = [0]
    while len(level) > 0:
        parents = {}
        for index in level:
            for other in near[tree[index][0]]:
                if other not in seen:
                    seen[other] = True
                    parents[other] = index
        level = list(range(len(tree), len(tree) + len(parents)))
        tree.extend([(other, parents[other]) for other in sorted(parents)])
    return tuple(tree)


def group_of(book, falls, manner, entry):
    check_meeting(book, falls)
    check_manner(manner)
    if entry not in book:
        raise NotInBook(entry)
    tree = tree_from(near_inputs(book, falls, manner), tuple(entry))
    return tuple(sorted([other for other, _ in tree]))


def least_chain(book, falls, manner, one, other):
    check_meeting(book, falls)
    check_manner(manner)
    for entry in (one, other):
        if entry not in book:
            raise NotInBook(entry)
    near = near_inputs(book, falls, manner)
    steps_left = _steps_to(near, tuple(other))
    if tuple(one) not in steps_left:
        return None
    chain = [tuple(one)]
    while steps_left[chain[-1]] > 0:
        chain.append(_first_onward(near, steps_left, chain[-1]))
    return tuple(chain)


def _steps_to(near, entry):
    """For each linked input the number of steps of the shortest chains from it to this one."""
    tree = tree_from(near, entry)
    steps = {entry: 0}
    for other, parent in tree[1:]:
        steps[other] = steps[tree[parent][0]] + 1
    return steps


def _first_onward(near, steps_left, entry):
    for other in near[entry]:
        if steps_left[other] < steps_left[entry]:
            return other
    return None


def tree_fault(book, falls, manner, tree):
    check_meeting(book, falls)
    split = is_split(falls, manner)
    if not is_sequence(tree) or len(tree) == 0:
        return "empty", 0
    seen = {}
    for index in range(len(tree)):
        what = _couple_fault(book, falls, split, tree, index, seen)
        if what is not None:
            return what, index
        seen[tuple(tree[index][0])] = True
    return None


def _couple_fault(book, falls, split, tree, index, seen):
    """The first word that tells what is wrong with a couple behind the right ones whose inputs are seen."""
    couple = tree[index]
    if not is_sequence(couple) or len(couple) != 2:
        return "couple"
    if couple[0] not in book:
        return "input"
    if tuple(couple[0]) in seen:
        return "twice"
    parent = couple[1]
    if index == 0:
        return None if parent is None else "parent"
    if not is_whole(parent, 0, index - 1):
        return "parent"
    if not are_near(falls, split, tuple(couple[0]), tuple(tree[parent][0])):
        return "apart"
    return None


def groups_fault(book, falls, manner, groups):
    check_meeting(book, falls)
    near = near_inputs(book, falls, manner)
    seen = {}
    for index in range(len(groups)):
        if tree_fault(book, falls, manner, groups[index]) is not None:
            return "tree", index
        inputs = [tuple(couple[0]) for couple in groups[index]]
        if any([entry in seen for entry in inputs]):
            return "twice", index
        if any([other in seen for entry in inputs for other in near[entry]]):
            return "open", index
        for entry in inputs:
            seen[entry] = True
    if len(seen) < len(book):
        return "left", len(groups)
    return None
