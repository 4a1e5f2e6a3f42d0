"""Inputs and views: rows with one place for each house."""

from firmvalues.errors import BadInput, BadLeading, BadView, UnlikeViews


def is_whole(thing, low=None, high=None):
    if isinstance(thing, bool) or not isinstance(thing, int):
        return False
    return (low is None or thing >= low) and (high is None or thing <= high)


def is_sequence(thing):
    return isinstance(thing, (list, tuple))


def is_whole_row(thing):
    """True for a list or tuple of whole numbers; a truth among them would pass for 0 or 1 in a comparison."""
    return is_sequence(thing) and all([is_whole(item) for item in thing])


def holds_each_once(thing, many):
    """True for a list or tuple that holds each of the numbers 0 to many - 1 once."""
    return is_whole_row(thing) and sorted(thing) == list(range(many))


def as_tuples(thing):
    """The thing with a tuple in the place of each list, within one another too."""
    if is_sequence(thing):
        return tuple([as_tuples(part) for part in thing])
    return thing


def row_with(row, at, item):
    """The tuple with this item in the place of the one that stands there."""
    return row[:at] + (item,) + row[at + 1:]


def check_entry(houses, values, entry):
    if not is_sequence(entry) or len(entry) != houses:
        raise BadInput("length", 0)
    for house in range(houses):
        if not is_whole(entry[house], 0, values - 1):
            raise BadInput("value", house)
    return tuple(entry)


def is_entry(houses, values, thing):
    """True for what `check_entry` lets."""
    return is_sequence(thing) and len(thing) == houses and all([is_whole(value, 0, values - 1) for value in thing])


def check_view(houses, values, view):
    if not is_sequence(view) or len(view) != houses:
        raise BadView("length", 0)
    for house in range(houses):
        if view[house] is not None and not is_whole(view[house], 0, values - 1):
            raise BadView("value", house)
    return tuple(view)


def each_row(signs, length):
    """All tuples of so many signs, in the order of the signs, the last place fastest."""
    if length == 0:
        yield ()
        return
    shorter = length - 1
    for row in each_row(signs, shorter):
        for sign in signs:
            yield row + (sign,)


def all_inputs(houses, values):
    signs = tuple(range(values))
    return tuple(each_row(signs, houses))


def each_view(houses, values):
    signs = (None,) + tuple(range(values))
    yield from each_row(signs, houses)


def differing(one, other):
    return tuple([house for house in range(len(one)) if one[house] != other[house]])


def heard_houses(view):
    return tuple([house for house in range(len(view)) if view[house] is not None])


def unheard_houses(view):
    return tuple([house for house in range(len(view)) if view[house] is None])


def view_within(one, other):
    return all([one[house] is None or one[house] == other[house] for house in range(len(one))])


def goes_on(view, entry):
    return view_within(view, entry)


def join_views(one, other):
    for house in differing(one, other):
        if one[house] is not None and other[house] is not None:
            raise UnlikeViews(house)
    return tuple([other[house] if one[house] is None else one[house] for house in range(len(one))])


def shown_view(entry, lot):
    return tuple([entry[house] if house in lot else None for house in range(len(entry))])


def check_leading(houses, values, order, names):
    if not holds_each_once(order, houses):
        raise BadLeading("order")
    if not holds_each_once(names, values):
        raise BadLeading("names")
    return tuple(order), tuple(names)


def led_entry(entry, order, names):
    led = [None] * len(entry)
    for house in range(len(entry)):
        if entry[house] is not None:
            led[order[house]] = names[entry[house]]
    return tuple(led)
