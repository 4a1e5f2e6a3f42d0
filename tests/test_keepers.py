"""firmvalues.keepers: points 13.3 to 13.5, letters in all orders, doubled and late, and looks by a second reckoning."""

import itertools
import random
import unittest

from firmvalues.books import Book
from firmvalues.falls import Falls
from firmvalues.keepers import Disk, blank_disk, disk_with_letter, disk_with_value, keepers_of, looked_disk
from firmvalues.letters import Letter
from firmvalues.outcomes import Outcomes, decide
from courses import World, agrees, as_parts, joined, worlds_of_nets
from reckon import all_families, inputs_of, rows


def shown(entry, houses):
    return tuple(value if house in houses else None for house, value in enumerate(entry))


def some_views(drawn, entry, many):
    return [shown(entry, drawn.sample(range(len(entry)), drawn.randint(0, len(entry)))) for _ in range(many)]


class TestDisk(unittest.TestCase):
    def test_attributes_and_equality(self):
        disk = Disk([0, None], [None, [None, 1]], [0, None], 1)
        self.assertEqual(as_parts(disk), ((0, None), (None, (None, 1)), (0, None), 1))
        self.assertEqual(disk, Disk(view=(0, None), heard=(None, (None, 1)), stable=(0, None), told=1))
        for other in (Disk((0, 0), (None, (None, 1)), (0, None), 1), Disk((0, None), (None, None), (0, None), 1),
                      Disk((0, None), (None, (None, 1)), None, 1), Disk((0, None), (None, (None, 1)), (0, None), None),
                      ((0, None), (None, (None, 1)), (0, None), 1), None):
            self.assertNotEqual(disk, other)
        self.assertNotEqual(Letter(0, 1, (0,), None), Disk(0, 1, (0,), None))

    def test_blank_disks(self):
        for n in (2, 3, 4, 5):
            self.assertEqual(as_parts(blank_disk(n)), ((None,) * n, (None,) * n, None, None))

    def test_a_value_changes_the_view_alone(self):
        for n in (2, 3, 5):
            disk = Disk((None,) * n, ((None,) * n,) * n, (0,) * n, 1)
            for house, value in itertools.product(range(n), range(4)):
                view = tuple(value if other == house else None for other in range(n))
                self.assertEqual(as_parts(disk_with_value(disk, house, value)), (view, *as_parts(disk)[1:]))
            self.assertEqual(disk, Disk((None,) * n, ((None,) * n,) * n, (0,) * n, 1))


class TestLetters(unittest.TestCase):
    def test_letters_in_all_orders_doubled_and_late(self):
        drawn = random.Random(311)
        for _ in range(150):
            n = drawn.choice([2, 3, 4, 5])
            entry = tuple(drawn.randrange(4) for _ in range(n))
            own, told = drawn.randrange(n), drawn.choice([None, 2])
            letters = [Letter(drawn.choice([h for h in range(n) if h != own]), own, view, drawn.choice([None, told]))
                       for view in some_views(drawn, entry, drawn.randint(1, 4))]
            first = Disk(shown(entry, [own]), (None,) * n, drawn.choice([None, shown(entry, [own])]), drawn.choice([None, told]))
            ends = set()
            for order in itertools.permutations(range(len(letters))):
                disk = first
                for at in (*order, *drawn.choices(order, k=2)):
                    before = disk
                    disk = disk_with_letter(disk, letters[at])
                    self.check_heard(before, disk, letters[at])
                ends.add(as_parts(disk))
            self.assertEqual(len(ends), 1)
            self.assertEqual(ends, {self.end_of(first, letters)})

    def check_heard(self, before, disk, letter):
        """One letter alone: it is joined to two places, and nothing is taken away."""
        heard = before.heard[letter.sender]
        wanted = list(before.heard)
        wanted[letter.sender] = letter.view if heard is None else joined(heard, letter.view)
        told = letter.told if before.told is None else before.told
        self.assertEqual(as_parts(disk), (joined(before.view, letter.view), tuple(wanted), before.stable, told))

    def end_of(self, first, letters):
        view, heard, told = first.view, list(first.heard), first.told
        for letter in letters:
            view = joined(view, letter.view)
            told = letter.told if told is None else told
        for house in range(len(view)):
            views = [letter.view for letter in letters if letter.sender == house]
            if views:
                heard[house] = (None,) * len(view)
                for other in views:
                    heard[house] = joined(heard[house], other)
        return view, tuple(heard), first.stable, told

    def test_the_view_of_none_is_heard_too(self):
        disk = disk_with_letter(blank_disk(3), Letter(1, 0, (None, None, None), None))
        self.assertEqual(disk.heard, (None, (None, None, None), None))
        self.assertEqual(keepers_of(disk, 0), (0, 1))
        self.assertEqual(keepers_of(blank_disk(3), 0), (0,))

    def test_an_outcome_that_was_told_stays(self):
        disk = Disk((0, None), (None, None), None, 0)
        self.assertEqual(disk_with_letter(disk, Letter(1, 0, (None, 1), 1)).told, 0)
        self.assertEqual(disk_with_letter(disk, Letter(1, 0, (None, 1), None)).told, 0)
        silent = Disk((0, None), (None, None), None, None)
        self.assertEqual(disk_with_letter(silent, Letter(1, 0, (None, 1), 0)).told, 0)


class TestLooks(unittest.TestCase):
    def test_keepers_over_all_rows_of_views(self):
        views = [None, *rows((None, 0), 3)]
        for heard in itertools.product(views, repeat=2):
            for view in rows((None, 0), 3):
                for house in range(3):
                    row = list(heard)
                    row.insert(house, None)
                    keepers = tuple(h for h in range(3) if h == house or row[h] == view)
                    self.assertEqual(keepers_of(Disk(view, row, None, None), house), keepers)

    def test_looks_against_a_second_reckoning(self):
        seen = {}
        for drawn, world in worlds_of_nets(25, 312, houses=(2, 3, 4)):
            for _ in range(25):
                entry = drawn.choice(inputs_of(world.n, world.book.m))
                house = drawn.randrange(world.n)
                views = some_views(drawn, entry, 2)
                heard = [drawn.choice([None, views[0], views[0], views[1]]) for _ in range(world.n)]
                heard[house] = None
                told = drawn.choice([None, None, None, world.book.m - 1])
                disk = Disk(views[0], heard, drawn.choice([None, views[1]]), told)
                kept = as_parts(disk)
                looked = looked_disk(disk, house, *world.parts())
                self.assertEqual(as_parts(looked), self.looked_by(world, disk, house))
                self.assertEqual(as_parts(disk), kept)
                key = (world.manner, told is None, looked.told is None, looked.stable == views[0])
                seen[key] = seen.get(key, 0) + 1
        self.assertGreater(min(seen[manner, True, none, stable] for manner in ("sure", "letters")
                               for none in (True, False) for stable in (True, False)
                               if (manner, none, stable) != ("letters", False, False)), 5)

    def looked_by(self, world, disk, house):
        keepers = {house} | {other for other in range(world.n) if disk.heard[other] == disk.view}
        is_stable = frozenset(range(world.n)) - keepers in world.let
        told = disk.told
        if told is None and world.manner == "sure":
            told = world.settles(disk.view)
        if told is None and world.manner == "letters" and is_stable:
            told = world.opens(disk.view)
        return disk.view, disk.heard, disk.view if is_stable else disk.stable, told

    def test_what_a_look_tells_in_sure(self):
        falls = Falls.at_most(3, 1)
        book = Book(3, 2, [(0, 0, 0), (0, 1, 1), (1, 1, 1)])
        outcomes = Outcomes(book.inputs, (0, 1, 1))
        for view in rows((None, 0, 1), 3):
            told = looked_disk(Disk(view, (None,) * 3, None, None), 0, book, falls, outcomes, "sure").told
            values = {outcomes.value_of(entry) for entry in book.inputs if agrees(view, entry)}
            self.assertEqual(told, values.pop() if len(values) == 1 else None)
        # A view that goes on to no input waits, and so does each view of the empty book.
        self.assertIsNone(looked_disk(Disk((1, 0, None), (None,) * 3, None, None), 0, book, falls, outcomes, "sure").told)
        empty = Book(3, 2, [])
        for view in rows((None, 0, 1), 3):
            disk = Disk(view, (None,) * 3, None, None)
            self.assertIsNone(looked_disk(disk, 0, empty, falls, Outcomes((), ()), "sure").told)

    def test_what_a_look_tells_in_letters(self):
        for lots in all_families(3):
            falls = Falls(3, lots)
            book = Book(3, 2, [(0, 0, 0), (0, 0, 1)])
            outcomes = Outcomes(book.inputs, (0, 0))
            world = World(book, falls, outcomes, "letters")
            for view in rows((None, 0, 1), 3):
                for heard in itertools.product((None, view, (0, None, None)), repeat=2):
                    disk = Disk(view, (None, *heard), None, None)
                    self.assertEqual(as_parts(looked_disk(disk, 0, *world.parts())), self.looked_by(world, disk, 0))

    def test_a_house_alone_can_be_a_quorum(self):
        falls = Falls(3, [(1, 2)])
        book = Book(3, 2, inputs_of(3, 2))
        outcomes = decide(book, falls, "letters")
        looked = looked_disk(Disk((1, None, None), (None,) * 3, None, None), 0, book, falls, outcomes, "letters")
        self.assertEqual(as_parts(looked), ((1, None, None), (None,) * 3, (1, None, None), 1))
        looked = looked_disk(Disk((1, None, None), (None,) * 3, None, None), 1, book, falls, outcomes, "letters")
        self.assertEqual((looked.stable, looked.told), (None, None))


if __name__ == "__main__":
    unittest.main()
