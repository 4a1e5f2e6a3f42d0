"""What a house still needs before it can tell."""

from firmvalues.errors import NoHouse
from firmvalues.falls import lot_within
from firmvalues.inputs import goes_on, is_whole, shown_view, unheard_houses
from firmvalues.keepers import keepers_of
from firmvalues.nets import written_disk


def waits_for(net, house):
    if not is_whole(house, 0, net.book.n - 1):
        raise NoHouse(house)
    disk = net.disks[house]
    if disk.told is not None:
        return None
    if net.memories[house] is None:
        return "asleep", ()
    if written_disk(net, house) != disk:
        return "write", ()
    if net.manner == "sure":
        return _waits_in_sure(net, disk.view)
    return _waits_in_letters(net, house, disk)


def _waits_in_sure(net, view):
    inputs = [entry for entry in net.book.inputs if goes_on(view, entry)]
    if len(inputs) == 0:
        return "entry", ()
    serving = [lot for lot in _lots_among(unheard_houses(view)) if _tells_apart(net.outcomes, inputs, lot)]
    return "value", _least_of(serving)


def _tells_apart(outcomes, inputs, lot):
    """True if any two of the inputs with unlike outcomes differ at a house of the lot."""
    told = {}
    for entry in inputs:
        value = outcomes.value_of(entry)
        if told.setdefault(shown_view(entry, lot), value) != value:
            return False
    return True


def _waits_in_letters(net, house, disk):
    unheard = unheard_houses(disk.view)
    if not net.falls.lets(unheard):
        serving = [lot for lot in _lots_among(unheard) if net.falls.lets(_without(unheard, lot))]
        return "value", _least_of(serving)
    keepers = keepers_of(disk, house)
    if not net.falls.is_quorum(keepers):
        others = _without(tuple(range(net.book.n)), keepers)
        return "view", _least_of([lot for lot in _lots_among(others) if net.falls.is_quorum(keepers + lot)])
    return "entry", ()


def _without(houses, lot):
    return tuple([house for house in houses if house not in lot])


def _lots_among(houses):
    """All lots of these houses, by size, then ascending."""
    lots = [()]
    for house in houses:
        lots = lots + [lot + (house,) for lot in lots]
    return [lot for _, lot in sorted([(len(lot), lot) for lot in lots])]


def _least_of(lots):
    """Those of the lots, by size, that hold no other one of them."""
    least = []
    for lot in lots:
        if not any([lot_within(smaller, lot) for smaller in least]):
            least.append(lot)
    return tuple(least)
