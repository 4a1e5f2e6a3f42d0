"""Plans of one exchange of letters, and how a clash breaks each of them."""

from firmvalues.errors import BadOrders, NotCovering, WrongClash
from firmvalues.firmness import places_of
from firmvalues.inputs import as_tuples, is_entry, is_sequence, is_whole, is_whole_row, shown_view
from firmvalues.judging import judge_clash

WORDS = ("waits", "unlike", "unproposed")


class PlanBreak:
    """An exchange that shows that a plan fails: in what way, from which input, who hears whom, and the silent lot."""

    def __init__(self, what, entry, orders, lot):
        self.what = what
        self.entry = as_tuples(entry)
        self.orders = as_tuples(orders)
        self.lot = as_tuples(lot)

    def __eq__(self, other):
        return (isinstance(other, PlanBreak) and self.what == other.what and self.entry == other.entry
                and self.orders == other.orders and self.lot == other.lot)


class SplitRun:
    """An exchange in which two parts of the houses hear nothing of one another."""

    def __init__(self, entry, orders, told):
        self.entry = as_tuples(entry)
        self.orders = as_tuples(orders)
        self.told = as_tuples(told)

    def __eq__(self, other):
        return (isinstance(other, SplitRun) and self.entry == other.entry and self.orders == other.orders
                and self.told == other.told)


def _is_order(houses, house, order):
    if not is_whole_row(order) or len(set(order)) != len(order):
        return False
    return all([0 <= other < houses and other != house for other in order])


def _check_orders(houses, orders):
    if not is_sequence(orders) or len(orders) != houses:
        raise BadOrders(0)
    for house in range(houses):
        if not _is_order(houses, house, orders[house]):
            raise BadOrders(house)


def exchange_values(plan, entry, orders):
    _check_orders(len(entry), orders)
    return tuple([_told_value(plan, entry, house, orders[house]) for house in range(len(entry))])


def _told_value(plan, entry, house, order):
    for many in range(len(order) + 1):
        view = shown_view(entry, (house, *order[:many]))
        if view in plan:
            return plan[view]
    return None


def _all_orders(houses, house):
    """All orders in which a house can hear others, the shorter ones first, those of one length ascending."""
    orders = [()]
    longest = [()]
    for _ in range(houses - 1):
        longest = [order + (other,) for order in longest for other in range(houses)
                   if other != house and other not in order]
        orders.extend(longest)
    return orders


def plan_values(plan, entry, house):
    values = [_told_value(plan, entry, house, order) for order in _all_orders(len(entry), house)]
    return tuple(sorted(set([value for value in values if value is not None])))


def order_for(plan, entry, house, value):
    for order in _all_orders(len(entry), house):
        if is_whole(value) and _told_value(plan, entry, house, order) == value:
            return order
    return None


def silent_order(houses, lot, house):
    return tuple([other for other in range(houses) if other != house and other not in lot])


def _silent_orders(houses, lot):
    """Each house outside the lot hears all others outside it; those within hear nobody."""
    return tuple([() if house in lot else silent_order(houses, lot, house) for house in range(houses)])


def plan_fault(plan, book, falls, manner, broken):
    if broken.what not in WORDS:
        return "what"
    if not _is_entry_for(book, manner, broken):
        return "entry"
    try:
        told = exchange_values(plan, broken.entry, broken.orders)
    except BadOrders:
        return "orders"
    if broken.what == "waits":
        return _waits_fault(falls, broken, told)
    if broken.lot != ():
        return "lot"
    return None if _shows(broken, told) else "told"


def _is_entry_for(book, manner, broken):
    if broken.what == "waits" or manner == "sure":
        return broken.entry in book
    return is_entry(book.n, book.m, broken.entry)


def _shows(broken, told):
    """True if the values told are what a break of the words unlike and unproposed says."""
    values = sorted(set([value for value in told if value is not None]))
    if broken.what == "unlike":
        return len(values) > 1
    return any([value not in broken.entry for value in values])


def _waits_fault(falls, broken, told):
    if not _is_let(falls, broken.lot):
        return "lot"
    outside = [house for house in range(falls.n) if house not in broken.lot]
    for house in outside:
        if tuple(sorted(broken.orders[house])) != silent_order(falls.n, broken.lot, house):
            return "heard"
    return "told" if all([told[house] is not None for house in outside]) else None


def _is_let(falls, lot):
    """A lot is ascending and holds no house twice; another row of houses is none."""
    return is_whole_row(lot) and list(lot) == sorted(set(lot)) and falls.lets(lot)


def break_plan(plan, book, falls, clash):
    refuse_wrong_clash(book, falls, clash)
    inputs = [tuple(entry) for entry, _ in clash.tree]
    values = []
    for entry in inputs:
        lacking = _break_at(plan, falls, entry)
        if lacking is not None:
            return lacking
        values.append(_told_value(plan, entry, 0, silent_order(falls.n, (), 0)))
    for at in range(1, len(inputs)):
        parent = clash.tree[at][1]
        if values[at] != values[parent]:
            split = split_run(plan, falls, inputs[at], inputs[parent])
            return PlanBreak("unlike", split.entry, split.orders, ())
    return _unproposed_break(falls, tuple(clash.fails[values[0]]), values[0])


def refuse_wrong_clash(book, falls, clash):
    fault = judge_clash(book, falls, clash)
    if fault is not None:
        raise WrongClash(fault[0], fault[1])


def _break_at(plan, falls, entry):
    """A break at one input where some lot is silent; None only if its houses tell one value whatever lot is silent."""
    tellers = []
    for lot in falls.each_lot():
        orders = _silent_orders(falls.n, lot)
        told = exchange_values(plan, entry, orders)
        outside = [house for house in range(falls.n) if house not in lot]
        if any([told[house] is None for house in outside]):
            return PlanBreak("waits", entry, orders, lot)
        tellers.extend([(told[house], house, orders[house]) for house in outside])
    return _unlike_break(falls.n, entry, tellers)


def _unlike_break(houses, entry, tellers):
    """`tellers` has triples (value, house, order), first those of all houses where no lot is silent, ascending.

    So the first triple with another value than the one ahead of all is of another house, or all houses told the one
    value where no lot is silent.
    """
    for value, house, order in tellers:
        if value != tellers[0][0]:
            _, other, other_order = tellers[0] if house != 0 else tellers[1]
            orders = [()] * houses
            orders[house] = order
            orders[other] = other_order
            return PlanBreak("unlike", entry, orders, ())
    return None


def _unproposed_break(falls, entry, value):
    """The break where all tell a value that the input lacks, or that a let lot hides in it."""
    places = places_of(entry, value)
    other = 1 if value == 0 else 0
    changed = [other if house in places else entry[house] for house in range(falls.n)]
    return PlanBreak("unproposed", changed, _silent_orders(falls.n, places), ())


def split_run(plan, falls, one, other):
    if falls.covering is None:
        raise NotCovering()
    first, second = falls.covering
    entry = tuple([other[house] if house in first and house not in second else one[house] for house in range(falls.n)])
    orders = []
    for house in range(falls.n):
        silent = first if house not in first else second
        orders.append(silent_order(falls.n, silent, house) if house not in silent else ())
    return SplitRun(entry, orders, exchange_values(plan, entry, orders))
