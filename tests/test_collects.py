"""firmvalues.collects: points 12.1 and 12.3, over drawn orders of writes and reads."""

import itertools
import random
import unittest

from firmvalues.cells import Cells
from firmvalues.collects import Collector


def within(one, other):
    return all(a is None or a == b for a, b in zip(one, other))


class SecondCollector:
    """All reads of a collector, cut into collects; `moments` tells when each collect began."""

    def __init__(self, n, own):
        self.n = n
        self.turns = [house for house in range(n) if house != own]
        self.reads = []

    def collects(self):
        """The full collects and the one in progress, with the number of the moment of each read."""
        size = len(self.turns)
        parts = [self.reads[at:at + size] for at in range(0, len(self.reads), size)]
        full = [part for part in parts if len(part) == size]
        rest = parts[-1] if parts and len(parts[-1]) < size else []
        return full, rest

    def view(self, part):
        view = [None] * self.n
        for house, value, moment in part:
            view[house] = value
        return tuple(view)


class TestCollectors(unittest.TestCase):
    def test_drawn_orders(self):
        drawn = random.Random(131)
        stable = 0
        for _ in range(300):
            n = drawn.randint(2, 5)
            owns = [drawn.choice([None, *range(n)]) for _ in range(drawn.randint(1, 4))]
            cells, shown = Cells(n), [(None,) * n]
            collectors = [(Collector(n, own=own), SecondCollector(n, own)) for own in owns]
            for _ in range(drawn.randint(1, 50)):
                empty = [house for house in range(n) if cells.read(house) is None]
                if empty and drawn.random() < 0.15:
                    cells.write(drawn.choice(empty), drawn.randrange(4))
                    shown.append(cells.shown)
                    continue
                collector, second = drawn.choice(collectors)
                house = collector.turn
                self.assertEqual(house, second.turns[len(second.reads) % len(second.turns)])
                before = cells.shown
                self.assertIsNone(collector.read_from(cells))
                self.assertEqual(cells.shown, before)
                second.reads.append((house, before[house], len(shown) - 1))
                self.check(collector, second)
            stable += self.check_moments(collectors, shown)
        self.assertGreater(stable, 200)

    def check(self, collector, second):
        full, rest = second.collects()
        self.assertEqual(collector.full, tuple(second.view(part) for part in full))
        self.assertEqual(collector.so_far, second.view(rest))
        self.assertEqual(collector.turn, second.turns[len(second.reads) % len(second.turns)])
        views = [second.view(part) for part in full[-2:]]
        wanted = views[-1] if len(views) == 2 and views[0] == views[1] else None
        self.assertEqual(collector.stable_view(), wanted)

    def check_moments(self, collectors, shown):
        """What two collects one behind the other read alike was held at one moment between the two."""
        stable, views = 0, []
        for collector, second in collectors:
            full, _ = second.collects()
            for one, other in itertools.pairwise(full):
                if second.view(one) == second.view(other):
                    stable += 1
                    at = one[-1][2]
                    self.assertLessEqual(at, other[0][2])
                    held = [view for view in shown[at:other[0][2] + 1]]
                    others = [tuple(value if house != collector.own else None for house, value in enumerate(view))
                              for view in held]
                    self.assertTrue(second.view(one) in others)
                    if collector.own is None:
                        views.append(second.view(one))
        for one, other in itertools.combinations(views, 2):
            self.assertTrue(within(one, other) or within(other, one))
        return stable

    def test_new_collectors(self):
        for n in range(2, 6):
            for own in (None, *range(n)):
                collector = Collector(n, own=own)
                self.assertEqual((collector.n, collector.own), (n, own))
                self.assertEqual(collector.turn, 1 if own == 0 else 0)
                self.assertEqual((collector.so_far, collector.full), ((None,) * n, ()))
                self.assertIsNone(collector.stable_view())
            self.assertIsNone(Collector(n).own)
            self.assertRaises(TypeError, Collector, n, 0)

    def test_forgetting(self):
        drawn = random.Random(132)
        for _ in range(100):
            n, own = drawn.randint(2, 5), drawn.choice([None, 0, 1])
            cells, collector = Cells(n), Collector(n, own=own)
            for house in range(n):
                cells.write(house, drawn.randrange(4))
            for _ in range(drawn.randint(0, 3 * n)):
                collector.read_from(cells)
            self.assertIsNone(collector.forget())
            self.assertEqual(vars(collector), vars(Collector(n, own=own)))
            self.assertIsNone(collector.stable_view())
            for _ in range(n if own is None else n - 1):
                collector.read_from(cells)
            wanted = tuple(None if house == own else value for house, value in enumerate(cells.shown))
            self.assertEqual(collector.full, (wanted,))

    def test_an_empty_view_can_be_stable(self):
        cells, collector = Cells(3), Collector(3, own=1)
        for _ in range(4):
            self.assertIsNone(collector.stable_view())
            collector.read_from(cells)
        self.assertEqual(collector.stable_view(), (None, None, None))

    def test_the_own_cell_is_never_read(self):
        class Watched(Cells):
            def read(self, house):
                asked.append(house)
                return Cells.read(self, house)
        for n in range(2, 6):
            for own in (None, *range(n)):
                asked = []
                cells, collector = Watched(n), Collector(n, own=own)
                for _ in range(3 * n):
                    collector.read_from(cells)
                turns = [house for house in range(n) if house != own]
                self.assertEqual(asked, [turns[at % len(turns)] for at in range(3 * n)])


if __name__ == "__main__":
    unittest.main()
