"""Lots of houses, and families that tell which lots may fall in one run."""

from firmvalues.errors import BadFalls, BadLot
from firmvalues.inputs import is_sequence, is_whole

MOST_LOTS = 32


def check_lot(houses, lot):
    if not is_sequence(lot) or not all([is_whole(house, 0, houses - 1) for house in lot]):
        raise BadLot()
    return tuple(sorted(set(lot)))


def lot_within(one, other):
    return all([house in other for house in one])


def lots_of_size(houses, size):
    lots = [()]
    for _ in range(size):
        lots = [lot + (house,) for lot in lots for house in range(houses) if house > max(lot, default=-1)]
    return tuple(lots)


def falls_within(one, other):
    return all([other.lets(lot) for lot in one.lots])


def _lots_by_size(houses):
    return [lot for size in range(houses + 1) for lot in lots_of_size(houses, size)]


def _checked_lots(houses, lots):
    checked = []
    for index in range(len(lots)):
        try:
            lot = check_lot(houses, lots[index])
        except BadLot:
            raise BadFalls("lot", index) from None
        if len(lot) == houses:
            raise BadFalls("all", index)
        checked.append(lot)
    return checked


class Falls:
    """A family: it lets the empty lot and each lot within one of those given."""

    def __init__(self, houses, lots):
        if not is_whole(houses, 2, 5):
            raise BadFalls("houses", 0)
        if not is_sequence(lots) or len(lots) > MOST_LOTS:
            raise BadFalls("lots", 0)
        given = [(), *_checked_lots(houses, lots)]
        let = [lot for lot in _lots_by_size(houses) if any([lot_within(lot, other) for other in given])]
        greatest = [lot for lot in let if not any([lot != other and lot_within(lot, other) for other in let])]
        self.n = houses
        self.lots = tuple(sorted(greatest))
        self._let = {lot: True for lot in let}

    def __eq__(self, other):
        return isinstance(other, Falls) and self.n == other.n and self.lots == other.lots

    @property
    def sure(self):
        return tuple([house for house in range(self.n) if not any([house in lot for lot in self.lots])])

    @property
    def covering(self):
        houses = tuple(range(self.n))
        for at in range(len(self.lots)):
            for other in self.lots[at + 1:]:
                if lot_within(houses, self.lots[at] + other):
                    return self.lots[at], other
        return None

    def lets(self, lot):
        return tuple(sorted(set(lot))) in self._let

    def is_quorum(self, lot):
        return tuple([house for house in range(self.n) if house not in lot]) in self._let

    def each_lot(self):
        yield from self._let

    def with_lot(self, lot):
        return Falls(self.n, (*self.lots, lot))

    def led(self, order):
        return Falls(self.n, [[order[house] for house in lot] for lot in self.lots])

    @staticmethod
    def at_most(houses, count):
        if not is_whole(houses, 2, 5):
            raise BadFalls("houses", 0)
        if not is_whole(count, 0, houses - 1):
            raise BadFalls("count", 0)
        return Falls(houses, lots_of_size(houses, count))
