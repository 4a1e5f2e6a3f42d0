"""Cells: one for each house, written once and read one by one."""

from firmvalues.errors import NoHouse, Twice
from firmvalues.inputs import is_whole


class Cells:
    """Empty cells in the beginning; a write changes them."""

    def __init__(self, houses):
        self.n = houses
        self._held = [None] * houses

    @property
    def shown(self):
        return tuple(self._held)

    def write(self, house, value):
        self._check_house(house)
        if self._held[house] is not None:
            raise Twice(house)
        self._held[house] = value

    def read(self, house):
        self._check_house(house)
        return self._held[house]

    def _check_house(self, house):
        if not is_whole(house, 0, self.n - 1):
            raise NoHouse(house)
