"""firmvalues.waits: points 14.7 and 14.8, by trying all lots; what is named is enough, and nothing less is."""

import itertools
import time
import unittest

from firmvalues.books import Book, book_of
from firmvalues.falls import Falls
from firmvalues.nets import Net, after_deeds, proposed_net
from firmvalues.outcomes import decide
from firmvalues.waits import waits_for
from courses import Shadow, World, agrees, drawn_deed, net_of, wanted_proposals, worlds_of_nets
from reckon import error_of, inputs_of, lots_of

NO_HOUSES = (True, False, None, -1, "0", 5, 99, (0,), [0], 0.0)


def least_by(lots, serves):
    """The lots that serve and have no other one that serves within them, by size, then ascending."""
    serving = [set(lot) for lot in lots if serves(set(lot))]
    least = [lot for lot in serving if not any(other < lot for other in serving)]
    return tuple(sorted((tuple(sorted(lot)) for lot in least), key=lambda lot: (len(lot), lot)))


def waits_by(shadow, house):
    world, disk = shadow.world, shadow.disks[house]
    if disk["told"] is not None:
        return None
    if shadow.memories[house] is None:
        return "asleep", ()
    if shadow.looked(house) != disk:
        return "write", ()
    view, n = disk["view"], world.n
    unheard = {h for h in range(n) if view[h] is None}
    lots = [lot for lot in lots_of(n)]
    if world.manner == "sure":
        inputs = world.inputs_behind(view)
        if not inputs:
            return "entry", ()
        unlike = [{h for h in range(n) if one[h] != other[h]} for one, other in itertools.combinations(inputs, 2)
                  if world.told[one] != world.told[other]]
        return "value", least_by([lot for lot in lots if set(lot) <= unheard], lambda lot: all(lot & differ for differ in unlike))
    if frozenset(unheard) not in world.let:
        return "value", least_by([lot for lot in lots if set(lot) <= unheard], lambda lot: frozenset(unheard - lot) in world.let)
    keepers = set(shadow.keepers(disk, house))
    if not world.is_quorum(keepers):
        return "view", least_by([lot for lot in lots if not set(lot) & keepers], lambda lot: world.is_quorum(keepers | lot))
    return "entry", ()


def filled(view, entry, lot):
    return tuple(entry[h] if h in lot else value for h, value in enumerate(view))


class TestWaits(unittest.TestCase):
    def each_moment(self, many, seed, deeds=40, right=True, houses=(2, 3, 4, 5)):
        for drawn, world in worlds_of_nets(many, seed, houses=houses, right=right):
            shadow, wanted = Shadow(world), wanted_proposals(drawn, world)
            for _ in range(deeds):
                if drawn.random() < 0.1:
                    wanted = wanted_proposals(drawn, world)
                deed = drawn_deed(drawn, shadow, wanted, 0.1)
                shadow.do(deed)
                yield drawn, shadow, net_of(shadow)

    def test_each_house_behind_each_deed(self):
        seen = {}
        for drawn, shadow, net in self.each_moment(10, 381):
            for house in range(shadow.world.n):
                told = waits_for(net, house)
                self.assertEqual(told, waits_by(shadow, house))
                key = (shadow.world.manner, told and told[0], told is not None and len(told[1]) > 1)
                seen[key] = seen.get(key, 0) + 1
        for manner in ("sure", "letters"):
            for word in (None, "asleep", "write", "value", "entry") + (("view",) if manner == "letters" else ()):
                self.assertGreater(seen.get((manner, word, False), 0), 3, (manner, word))
        for key in (("sure", "value", True), ("letters", "value", True), ("letters", "view", True)):
            self.assertGreater(seen[key], 10)

    def test_outcomes_that_are_not_right(self):
        for drawn, shadow, net in self.each_moment(3, 382, right=False):
            for house in range(shadow.world.n):
                self.assertEqual(waits_for(net, house), waits_by(shadow, house))

    def test_what_it_names_is_enough_and_nothing_less_is(self):
        seen = {"value": 0, "view": 0, "settled": 0}
        for drawn, shadow, net in self.each_moment(6, 383, houses=(2, 3, 4)):
            world, house = shadow.world, drawn.randrange(shadow.world.n)
            told = waits_for(net, house)
            if told is None or told[0] not in ("value", "view"):
                continue
            seen[told[0]] += 1
            view = shadow.disks[house]["view"]
            open_houses = [h for h in range(world.n) if view[h] is None]
            for lot in [lot for lot in lots_of(world.n) if told[0] == "view" or set(lot) <= set(open_houses)]:
                named = any(set(less) <= set(lot) for less in told[1])
                if told[0] == "view":
                    self.assertEqual(self.is_stable_with(shadow, house, lot), named)
                elif world.manner == "letters":
                    self.assertEqual(frozenset(set(open_houses) - set(lot)) in world.let, named)
                else:
                    ends = [world.settles(filled(view, entry, lot)) for entry in world.inputs_behind(view)]
                    self.assertEqual(None not in ends, named)
                    seen["settled"] += named
        self.assertGreater(min(seen.values()), 20)

    def is_stable_with(self, shadow, house, lot):
        """Whether the house's view is stable behind letters with just this view from the houses of the lot."""
        other = shadow.copy()
        for sender in lot:
            if sender != house:
                heard = list(other.memories[house]["heard"])
                heard[sender] = other.disks[house]["view"]
                other.memories[house]["heard"] = tuple(heard)
        return other.world.is_quorum(other.keepers(other.memories[house], house))

    def test_every_house_that_is_none(self):
        for drawn, shadow, net in self.each_moment(1, 384, deeds=4, houses=(2, 4, 5)):
            for thing in NO_HOUSES:
                self.assertEqual(error_of(waits_for, net, thing), ("NoHouse", thing))
            self.assertEqual(error_of(waits_for, net, shadow.world.n), ("NoHouse", shadow.world.n))
            self.assertIsNone(error_of(waits_for, net, shadow.world.n - 1))

    def test_the_first_that_applies(self):
        falls = Falls.at_most(3, 1)
        book = Book(3, 2, [(0, 0, 0), (0, 1, 1), (1, 1, 1)])
        outcomes = decide(book, falls, "sure")
        world = World(book, falls, outcomes, "sure")
        net = world.net()
        self.assertEqual(waits_for(net, 0), ("value", ((1,), (2,))))
        for deeds, wanted in (([("stop", 0)], ("asleep", ())), ([("propose", 0, 1)], ("write", ())),
                              ([("propose", 0, 1), ("stop", 0)], ("asleep", ())),
                              ([("propose", 0, 1), ("write", 0), ("stop", 0)], None)):
            self.assertEqual(waits_for(after_deeds(net, deeds), 0), wanted)
        waiting = proposed_net(book, falls, outcomes, "sure", (0, None, None))
        self.assertEqual(waits_for(waiting, 0), ("value", ((1,), (2,))))
        self.assertEqual(waits_for(after_deeds(waiting, [("stop", 0)]), 0), ("asleep", ()))
        self.assertEqual(waits_for(after_deeds(waiting, [("send", 1, 0), ("hand", 0)]), 0), ("write", ()))

    def test_no_input_left(self):
        falls = Falls.at_most(3, 1)
        book = Book(3, 2, [(0, 0, 0), (1, 1, 1)])
        outcomes = decide(book, falls, "sure")
        for manner, lots in (("sure", ("entry", ())), ("letters", ("value", ((1,), (2,))))):
            net = after_deeds(Net(Book(3, 2, []), falls, outcomes, manner), [("propose", 0, 1), ("write", 0)])
            self.assertEqual(waits_for(net, 0), lots)
        falls = Falls(3, [(1, 2)])
        net = after_deeds(Net(book, falls, outcomes, "letters"), [("propose", 0, 1), ("write", 0)])
        self.assertIsNone(waits_for(net, 0))
        net = after_deeds(Net(Book(3, 2, [(0, 0, 0)]), falls, outcomes, "letters"), [("propose", 0, 1), ("write", 0)])
        self.assertEqual(waits_for(net, 0), ("entry", ()))

    def test_a_large_book_takes_little_time(self):
        falls = Falls.at_most(4, 1)
        book = book_of(falls, 4, ("all",))
        told = decide(book_of(falls, 4, ("firm greatest",)), falls, "cells")
        world = World(book_of(falls, 4, ("firm greatest",)), falls, told, "sure")
        self.assertEqual(len(inputs_of(4, 4)), len(book))
        net = proposed_net(*world.parts(), (0, None, None, None))
        begin = time.process_time()
        for house in range(4):
            waits_for(net, house)
        self.assertLess(time.process_time() - begin, 2)
        self.assertTrue(agrees((0, None, None, None), (0, 0, 0, 0)))


if __name__ == "__main__":
    unittest.main()
