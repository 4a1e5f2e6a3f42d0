"""Collectors: they read the cells of the houses by turns."""


class Collector:
    """`so_far` is what the collect in progress has read, `full` the collects that were read to their ends."""

    def __init__(self, houses, *, own=None):
        self.n = houses
        self.own = own
        self._turns = tuple([house for house in range(houses) if house != own])
        self.forget()

    def forget(self):
        self.turn = self._turns[0]
        self.so_far = (None,) * self.n
        self.full = ()

    def read_from(self, cells):
        house = self.turn
        view = self.so_far[:house] + (cells.read(house),) + self.so_far[house + 1:]
        if house == self._turns[-1]:
            self.turn = self._turns[0]
            self.so_far = (None,) * self.n
            self.full = (*self.full, view)
        else:
            self.turn = self._turns[self._turns.index(house) + 1]
            self.so_far = view

    def stable_view(self):
        if len(self.full) < 2 or self.full[-1] != self.full[-2]:
            return None
        return self.full[-1]
