"""firmvalues.cells: point 12.2."""

import random
import unittest

from firmvalues.cells import Cells
from reckon import error_of

NO_HOUSES = (True, False, None, -1, "0", 0.0, (0,), [0], {})


class TestCells(unittest.TestCase):
    def test_empty_cells(self):
        for n in range(2, 6):
            cells = Cells(n)
            self.assertEqual((cells.n, cells.shown), (n, (None,) * n))
            self.assertEqual([cells.read(house) for house in range(n)], [None] * n)

    def test_writes_and_reads(self):
        drawn = random.Random(121)
        for _ in range(200):
            n = drawn.randint(2, 5)
            cells, held = Cells(n), [None] * n
            for _ in range(12):
                house = drawn.choice([*range(n), n, *NO_HOUSES])
                value = drawn.randrange(4)
                before = cells.shown
                self.assertEqual(before, tuple(held))
                if isinstance(house, bool) or house not in list(range(n)) or type(house) is float:
                    self.assertEqual(error_of(cells.write, house, value), ("NoHouse", house))
                    self.assertEqual(error_of(cells.read, house), ("NoHouse", house))
                elif held[house] is not None:
                    self.assertEqual(error_of(cells.write, house, value), ("Twice", house))
                    self.assertEqual(error_of(cells.write, house, held[house]), ("Twice", house))
                else:
                    self.assertIsNone(cells.write(house, value))
                    held[house] = value
                self.assertEqual([cells.read(house) for house in range(n)], held)
                self.assertEqual((type(cells.shown), cells.shown, cells.n), (tuple, tuple(held), n))
                self.assertEqual(before, before[:])

    def test_what_was_shown_stays(self):
        cells = Cells(3)
        cells.write(2, 0)
        shown = cells.shown
        cells.write(0, 1)
        self.assertEqual((shown, cells.shown), ((None, None, 0), (1, None, 0)))

    def test_cells_are_apart(self):
        one, other = Cells(2), Cells(2)
        one.write(0, 1)
        self.assertEqual(other.shown, (None, None))
        other.write(0, 0)
        self.assertEqual(one.shown, (1, None))


if __name__ == "__main__":
    unittest.main()
