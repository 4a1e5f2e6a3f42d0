"""firmvalues.parted: point 14.9 and the stable views of 13.1, for all couples of inputs."""

import itertools
import random
import unittest

from firmvalues.books import Book
from firmvalues.falls import Falls
from firmvalues.nets import Net, after_deeds
from firmvalues.outcomes import Outcomes, decide
from firmvalues.parted import parted_course
from courses import COVERED, Shadow, World, plain_net, within
from reckon import all_families, inputs_of, some_families


def covering_by(n, lots):
    for one, other in itertools.combinations(sorted(lots), 2):
        if set(one) | set(other) == set(range(n)):
            return one, other
    return None


def exchange_by(half):
    deeds = [("send", one, other) for one in half for other in half if one != other]
    return deeds + [("hand", 0) for _ in deeds] + [("write", house) for house in half]


def course_by(n, lots, one, other):
    first, second = covering_by(n, lots)
    rest = [[h for h in range(n) if h not in lot] for lot in (first, second)]
    course = []
    for houses, entry in zip(rest, (one, other)):
        for house in houses:
            course += [("propose", house, entry[house]), ("write", house)]
    for houses in rest:
        course += exchange_by(houses) + exchange_by(houses)
    return tuple(course)


def only(entry, houses):
    return tuple(value if house in houses else None for house, value in enumerate(entry))


class TestParted(unittest.TestCase):
    def families(self):
        drawn = random.Random(391)
        for n in (2, 3, 4, 5):
            families = all_families(n) if n < 4 else [*some_families(n, 40, 391), COVERED[n]]
            for lots in families:
                yield drawn, n, Falls(n, lots)

    def test_none_exactly_if_no_two_lots_cover_all_houses(self):
        counts = {True: 0, False: 0}
        for drawn, n, falls in self.families():
            told = parted_course(falls, (0,) * n, (1,) * n)
            self.assertEqual(told is None, covering_by(n, falls.lots) is None)
            counts[told is None] += 1
        self.assertGreater(min(counts.values()), 10)

    def test_the_course_deed_by_deed_for_all_couples(self):
        for drawn, n, falls in self.families():
            if covering_by(n, falls.lots) is None:
                continue
            couples = list(itertools.product(inputs_of(n, 2), repeat=2))
            for one, other in couples if n < 4 else drawn.sample(couples, 30):
                self.assertEqual(parted_course(falls, one, other), course_by(n, falls.lots, one, other))

    def test_what_each_half_knows_and_tells(self):
        seen = {"two values": 0, "lone": 0, "one": 0}
        for drawn, n, falls in self.families():
            couple = covering_by(n, falls.lots)
            if couple is None:
                continue
            m = drawn.choice([2, 3]) if n < 4 else 2
            outcomes = None
            while not isinstance(outcomes, Outcomes):
                inputs = inputs_of(n, m)
                book = Book(n, m, drawn.sample(inputs, drawn.randint(1, min(9, len(inputs)))))
                outcomes = decide(book, falls, "cells", drawn.sample(range(m), m))
            halves = [[h for h in range(n) if h not in lot] for lot in couple]
            for one, other in itertools.product(book.inputs, repeat=2):
                course = parted_course(falls, one, other)
                net = after_deeds(Net(book, falls, outcomes, "letters"), course)
                shadow = Shadow(World(book, falls, outcomes, "letters"))
                for deed in course:
                    shadow.do(deed)
                self.assertEqual(plain_net(net), shadow.plain())
                self.assertEqual(len(net), 0)
                for half, entry in zip(halves, (one, other)):
                    for house in half:
                        self.assertEqual(net.disks[house].view, only(entry, half))
                        self.assertEqual(net.disks[house].stable, only(entry, half))
                        self.assertEqual(net.told_values[house], outcomes.value_of(entry))
                        self.assertEqual(net.memories[house], net.disks[house])
                views = [net.disks[half[0]].stable for half in halves]
                self.assertFalse(within(views[0], views[1]) or within(views[1], views[0]))
                seen["two values" if outcomes.value_of(one) != outcomes.value_of(other) else "one"] += 1
                seen["lone"] += any(len(half) == 1 for half in halves)
        self.assertGreater(min(seen.values()), 10)

    def test_a_course_as_it_stands(self):
        falls = Falls(3, [(0, 1), (2,)])
        self.assertEqual(falls.covering, ((0, 1), (2,)))
        self.assertEqual(parted_course(falls, (0, 0, 0), (1, 1, 1)),
                         (("propose", 2, 0), ("write", 2), ("propose", 0, 1), ("write", 0), ("propose", 1, 1), ("write", 1),
                          ("write", 2), ("write", 2))
                         + (("send", 0, 1), ("send", 1, 0), ("hand", 0), ("hand", 0), ("write", 0), ("write", 1)) * 2)

    def test_a_house_of_both_lots_does_nothing(self):
        course = parted_course(Falls(4, [(0, 1, 2), (1, 2, 3)]), (0, 0, 0, 0), (1, 1, 1, 1))
        self.assertEqual({house for deed in course if deed[0] == "write" for house in deed[1:]}, {0, 3})


if __name__ == "__main__":
    unittest.main()
