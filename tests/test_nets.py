"""firmvalues.nets: points 13.1 and 13.6 to 13.9, behind every deed of drawn courses, by a second walk."""

import copy
import random
import time
import unittest

from firmvalues.books import Book, book_of
from firmvalues.falls import Falls
from firmvalues.inputs import all_inputs
from firmvalues.nets import Net, after_deed, after_deeds, net_steps, proposed_net
from firmvalues.outcomes import Outcomes, decide
from courses import (Shadow, World, agrees, any_deeds, drawn_course, drawn_deed, net_of, plain_net, wanted_proposals,
                     within, worlds_of_nets)
from reckon import error_of, inputs_of, rows

NO_MANNERS = ("cells", "Sure", "", None, 0, True, [], {}, b"sure", ("sure",))
BAD_DEEDS = (([], "word"), (["fall", 0], "word"), (None, "word"), (["write"], "length"), (["write", True], "house"),
             (["write", 9], "house"), (["write", None], "house"), (["write", "0"], "house"), (["write", -1], "house"),
             (["propose", 0, True], "value"), (["propose", 0, None], "value"), (["propose", 0, 4], "value"),
             (["propose", 0, "0"], "value"), (["propose", 0, -1], "value"), (["propose", 7, 7], "house"),
             (["send", 0, 5], "house"), (["send", 5, 0], "house"), (["hand", True], "at"), (["hand", None], "at"),
             (["lose", -1], "at"), (["double", "0"], "at"), (["stop", 5], "house"), (["wake", False], "house"))


def small_world(manner, lots=((0,), (1,), (2,))):
    falls = Falls(3, lots)
    book = book_of(falls, 2, ("firm greatest",))
    return World(book, falls, decide(book, falls, "letters" if lots == ((0,), (1,), (2,)) else "cells"), manner)


class TestNewNets(unittest.TestCase):
    def test_what_a_new_net_holds(self):
        for drawn, world in worlds_of_nets(4, 321):
            net = Net(*world.parts())
            self.assertEqual((net.book, net.falls, net.outcomes, net.manner), world.parts())
            self.assertEqual(plain_net(net), Shadow(world).plain())
            self.assertEqual((net.sent, len(net), list(net), net.told_values), (0, 0, [], (None,) * world.n))

    def test_manners(self):
        book, falls, outcomes, _ = small_world("sure").parts()
        for manner in NO_MANNERS:
            for view in ((0, 0, 0), (9,), None):
                self.assertEqual(error_of(Net, book, falls, outcomes, manner), ("BadManner", manner))
                self.assertEqual(error_of(proposed_net, book, falls, outcomes, manner, view), ("BadManner", manner))

    def test_equality_is_by_all_attributes(self):
        world = small_world("sure")
        book, falls, outcomes, _ = world.parts()
        net = proposed_net(*world.parts(), (0, 1, None))
        self.assertEqual(net, after_deeds(world.net(), [["propose", 1, 1], ("propose", 0, 0), ("write", 0), ("write", 1)]))
        others = [proposed_net(book.without_entry((0, 0, 0)), falls, outcomes, "sure", (0, 1, None)),
                  proposed_net(book, Falls(3, [(0,), (1,)]), outcomes, "sure", (0, 1, None)),
                  proposed_net(book, falls, outcomes, "letters", (0, 1, None)),
                  proposed_net(book, falls, Outcomes(outcomes.inputs, (1,) * len(book)), "sure", (0, 1, None)),
                  after_deed(net, ("propose", 2, 0)), after_deeds(net, [("propose", 2, 0), ("write", 2)]),
                  after_deed(net, ("stop", 0)), after_deed(net, ("send", 0, 1)),
                  after_deeds(net, [("send", 0, 1), ("lose", 0)]), None, "net", plain_net(net)]
        for other in others:
            self.assertNotEqual(net, other)
        self.assertEqual(net, after_deeds(net, [("stop", 0), ("wake", 0)]))

    def test_one_attribute_alone_makes_nets_unlike(self):
        world = small_world("sure")
        net = proposed_net(*world.parts(), (0, 1, None))
        sent = after_deed(net, ("send", 0, 1))
        for name, thing in (("book", Book(3, 2, [])), ("falls", Falls(3, [])), ("outcomes", Outcomes((), ())),
                            ("manner", "letters"), ("disks", world.net().disks), ("memories", (None,) * 3), ("way", sent.way),
                            ("sent", 7)):
            other = copy.copy(net)
            self.assertEqual(other, net)
            setattr(other, name, thing)
            self.assertNotEqual(other, net, name)


class TestDeeds(unittest.TestCase):
    def walk(self, drawn, world, many, falling):
        """Compares all that the net tells behind each deed, and the net ahead of it, which must stay as it was."""
        shadow, net, wanted = Shadow(world), world.net(), wanted_proposals(drawn, world)
        for _ in range(many):
            if drawn.random() < 0.05 and world.manner == "letters":
                wanted = wanted_proposals(drawn, world)
            deed = drawn_deed(drawn, shadow, wanted, falling)
            before = shadow.plain()
            behind = after_deed(net, list(deed))
            self.assertEqual(plain_net(net), before)
            shadow.do(deed)
            self.assertEqual(plain_net(behind), shadow.plain())
            net = behind
        self.assertEqual((net.book, net.falls, net.outcomes, net.manner), world.parts())
        self.assertEqual(net, net_of(shadow))
        return shadow

    def test_behind_every_deed_of_drawn_courses(self):
        seen = {"told": 0, "split": 0, "sure": 0, "none": 0, "asleep": 0}
        for drawn, world in worlds_of_nets(14, 322):
            shadow = self.walk(drawn, world, drawn.choice([20, 60, 120]), drawn.choice([0.02, 0.1, 0.3]))
            seen["told"] += any(disk["told"] is not None for disk in shadow.disks)
            seen["split"] += world.falls.covering is not None
            seen["sure"] += world.falls.sure != ()
            seen["none"] += world.falls.lots == ((),)
            seen["asleep"] += len(shadow.awake()) < world.n
        self.assertGreater(min(seen.values()), 8)

    def test_outcomes_that_are_not_right(self):
        for drawn, world in worlds_of_nets(4, 323, right=False):
            self.walk(drawn, world, 60, 0.1)

    def test_courses_of_500_deeds(self):
        for drawn, world in worlds_of_nets(1, 324, houses=(2, 4, 5)):
            self.walk(drawn, world, 500, 0.03)

    def test_every_deed_at_every_moment(self):
        words = {}
        for drawn, world in worlds_of_nets(4, 325, houses=(2, 3, 4)):
            shadow, net, wanted = Shadow(world), world.net(), wanted_proposals(drawn, world)
            for _ in range(30):
                for deed in any_deeds(world.n, world.book.m, len(shadow.way) + 2):
                    refused = shadow.refused(deed)
                    if refused is None:
                        other = shadow.copy()
                        other.do(deed)
                        if drawn.random() < 0.3:
                            self.assertEqual(plain_net(after_deed(net, deed)), other.plain())
                    else:
                        self.assertEqual(error_of(after_deed, net, deed), ("NoDeed", *refused))
                        words[deed[0], refused[0]] = words.get((deed[0], refused[0]), 0) + 1
                for deed, what in BAD_DEEDS:
                    if world.n < 5 and world.book.m < 5 and (deed is None or 9 not in deed[:1]):
                        self.assertEqual(error_of(after_deed, net, deed), ("BadDeed", what))
                self.assertEqual(plain_net(net), shadow.plain())
                deed = drawn_deed(drawn, shadow, wanted, 0.2)
                shadow.do(deed)
                net = after_deed(net, deed)
        self.assertEqual(set(words), {("propose", "asleep"), ("propose", "proposed"), ("write", "asleep"), ("stop", "asleep"),
                                      ("send", "self"), ("send", "asleep"), ("hand", "letter"), ("hand", "asleep"),
                                      ("double", "letter"), ("lose", "letter"), ("wake", "awake")})
        self.assertGreater(min(words.values()), 5)

    def test_the_order_of_the_words(self):
        net = after_deeds(small_world("letters").net(), [("propose", 0, 1), ("write", 0), ("send", 1, 0), ("stop", 0)])
        for deed, told in ((("propose", 0, 1), ("asleep", 0)), (("propose", 0, 2), None), (("send", 0, 0), ("self", 0)),
                           (("send", 0, 1), ("asleep", 0)), (("hand", 0), ("asleep", 0)), (("hand", 1), ("letter", 1)),
                           (("hand", 10 ** 30), ("letter", 10 ** 30)), (("wake", 1), ("awake", 1))):
            wanted = ("BadDeed", "value") if told is None else ("NoDeed", *told)
            self.assertEqual(error_of(after_deed, net, deed), wanted)
        awake = after_deed(net, ("wake", 0))
        for deed in (("send", 0, 1), ("hand", 0), ("write", 0), ("stop", 0)):
            self.assertIsNone(error_of(after_deed, awake, deed))
        self.assertEqual(error_of(after_deed, awake, ("propose", 0, 0)), ("NoDeed", "proposed", 0))

    def test_a_house_that_stopped_before_it_wrote_may_propose_again(self):
        net = after_deeds(small_world("letters").net(), [("propose", 2, 0), ("stop", 2), ("wake", 2), ("propose", 2, 1)])
        self.assertEqual(net.memories[2].view, (None, None, 1))
        self.assertEqual(net.disks[2].view, (None, None, None))
        self.assertEqual(after_deed(net, ("write", 2)).disks[2].view, (None, None, 1))

    def test_the_receiver_may_be_asleep_and_a_double_is_not_sent(self):
        net = after_deeds(small_world("letters").net(), [("stop", 1), ("send", 0, 1), ("double", 0), ("send", 2, 1)])
        self.assertEqual((net.sent, len(net)), (2, 3))
        self.assertEqual([(letter.sender, letter.receiver) for letter in net], [(0, 1), (0, 1), (2, 1)])
        net = after_deeds(net, [("wake", 1), ("hand", 1), ("lose", 0), ("hand", 0)])
        self.assertEqual((net.sent, len(net), net.memories[1].heard), (2, 0, ((None,) * 3, None, (None,) * 3)))

    def test_a_deed_that_is_changed_later_has_no_effect(self):
        deeds = [["propose", 0, 1], ["write", 0]]
        net = after_deeds(small_world("sure").net(), deeds)
        kept = plain_net(net)
        deeds[0][2] = 0
        deeds.pop()
        self.assertEqual(plain_net(net), kept)


class TestCourses(unittest.TestCase):
    def test_steps_are_the_nets_behind_each_deed(self):
        for drawn, world in worlds_of_nets(3, 326):
            course, shadow = drawn_course(drawn, world, 40)
            start = world.net()
            steps = list(net_steps(start, course))
            self.assertEqual(len(steps), 40)
            net = start
            for deed, step in zip(course, steps):
                net = after_deed(net, deed)
                self.assertEqual(step, net)
            self.assertEqual(after_deeds(start, course), net)
            self.assertEqual(after_deeds(start, [list(deed) for deed in course]), net)
            self.assertEqual((after_deeds(start, ()), list(net_steps(start, []))), (start, []))
            at = drawn.randrange(41)
            self.assertEqual(after_deeds(after_deeds(start, course[:at]), course[at:]), net)

    def test_the_first_deed_that_is_refused(self):
        for drawn, world in worlds_of_nets(3, 327):
            course, shadow = drawn_course(drawn, world, 30)
            at = drawn.randrange(30)
            for wrong, told in ((("hand", 999), ("NoDeed", "letter", 999)), (["stop"], ("BadDeed", "length"))):
                spoilt = course[:at] + [wrong, "nothing"] + course[at:]
                self.assertEqual(error_of(after_deeds, world.net(), spoilt), told)
                steps, found = net_steps(world.net(), spoilt), []
                error = error_of(lambda: [found.append(step) for step in steps])
                self.assertEqual((error, len(found)), (told, at))
                self.assertEqual(found, list(net_steps(world.net(), course[:at])))

    def test_steps_are_made_one_by_one(self):
        steps = net_steps(small_world("sure").net(), [("write", 0), ("wake", 0)])
        self.assertEqual(next(steps).sent, 0)
        self.assertEqual(error_of(next, steps), ("NoDeed", "awake", 0))

    def test_proposed_nets(self):
        for drawn, world in worlds_of_nets(3, 328):
            for view in drawn.choices(rows((None, *range(world.book.m)), world.n), k=6):
                course = [deed for house in range(world.n) if view[house] is not None
                          for deed in (("propose", house, view[house]), ("write", house))]
                for thing in (view, list(view)):
                    self.assertEqual(proposed_net(*world.parts(), thing), after_deeds(world.net(), course))

    def test_what_is_no_view_is_refused(self):
        world = small_world("letters")
        for view in (None, "000", (0, 0), (0, 0, 0, 0), {0: 0}):
            self.assertEqual(error_of(proposed_net, *world.parts(), view), ("BadView", "length", 0))
        for house in range(3):
            for thing in (True, False, 2, -1, "0", (0,), 0.0):
                view = [None, 1, thing] if house == 2 else [0] * house + [thing, "x"] + [0] * (1 - house)
                self.assertEqual(error_of(proposed_net, *world.parts(), view), ("BadView", "value", house))

    def test_long_courses_over_five_houses_take_little_time(self):
        drawn = random.Random(329)
        falls = Falls.at_most(5, 2)
        for manner, rule in (("sure", ("alike but", 3)), ("letters", ("alike but", 0))):
            some = [entry for entry in all_inputs(5, 3) if len(set(entry)) > 2 or manner == "letters"][:200]
            book = Book(5, 3, some) if manner == "sure" else book_of(falls, 3, rule)
            outcomes = Outcomes(book.inputs, [max(entry) for entry in book.inputs])
            world = World(book, falls, outcomes, manner)
            course, shadow = drawn_course(drawn, world, 500)
            begin = time.process_time()
            net = after_deeds(world.net(), course)
            self.assertLess(time.process_time() - begin, 3)
            self.assertEqual(plain_net(net), shadow.plain())


class TestEveryCourse(unittest.TestCase):
    """What point 13.1 says, at every moment of drawn courses."""

    def follow(self, drawn, world, many, free):
        net, shadow, wanted = world.net(), Shadow(world), wanted_proposals(drawn, world)
        stables, told = set(), set()
        for _ in range(many):
            if free and drawn.random() < 0.1:
                wanted = drawn.choice(inputs_of(world.n, world.book.m))
            deed = drawn_deed(drawn, shadow, wanted, 0.15)
            shadow.do(deed)
            before, net = net, after_deed(net, deed)
            for house in range(world.n):
                old, new = before.disks[house], net.disks[house]
                self.assertTrue(within(old.view, new.view))
                self.assertIn(old.told, (None, new.told))
                stables.add(new.stable)
                if deed == ("write", house) and world.manner == "sure":
                    memory = before.memories[house]
                    settled = world.settles(memory.view)
                    self.assertEqual(new.told is not None, old.told is not None or memory.told is not None or settled is not None)
            for letter in net:
                self.assertTrue(within(letter.view, net.disks[letter.sender].view))
            told |= set(net.told_values) - {None}
            self.check_told(world, shadow, told)
        return stables - {None}, told

    def check_told(self, world, shadow, told):
        proposals = shadow.proposals()
        goes_on = [entry for entry in world.book.inputs if agrees(proposals, entry)]
        if world.manner == "sure" and not goes_on:
            return
        self.assertLessEqual(len(told), 1)
        for value in told:
            self.assertEqual({world.told[entry] for entry in goes_on} - {value}, set())
            if world.manner == "letters":
                self.assertIn(value, proposals)

    def test_views_grow_and_one_value_at_most_is_told(self):
        seen = {"several stable": 0, "sure": 0, "letters": 0}
        for drawn, world in worlds_of_nets(22, 331):
            stables, told = self.follow(drawn, world, drawn.choice([50, 120]), drawn.random() < 0.4)
            seen[world.manner] += len(told)
            seen["several stable"] += len(stables) > 2
            if world.falls.covering is None:
                self.assertTrue(all(within(one, other) or within(other, one) for one in stables for other in stables))
        self.assertGreater(min(seen.values()), 10)

    def test_beyond_the_family_nothing_wrong_is_told(self):
        """More houses stop for good than are let; in letters any proposals."""
        told = 0
        for drawn, world in worlds_of_nets(10, 332, houses=(3, 4)):
            shadow, net = Shadow(world), world.net()
            wanted = wanted_proposals(drawn, world)
            fallen = set(drawn.sample(range(world.n), world.n - 1))
            values = set()
            for step in range(100):
                deed = drawn_deed(drawn, shadow, wanted, 0.05)
                while deed[0] == "wake" and deed[1] in fallen and step > 30:
                    deed = drawn.choice([d for d in any_deeds(world.n, 1, len(shadow.way)) if d[0] not in ("wake", "propose")
                                         and shadow.refused(d) is None] or [None])
                    if deed is None:
                        break
                if deed is None:
                    break
                shadow.do(deed)
                net = after_deed(net, deed)
                values |= set(net.told_values) - {None}
                self.check_told(world, shadow, values)
            told += len(values)
        self.assertGreater(told, 10)

    def test_without_two_covering_lots_stable_views_lie_within_one_another(self):
        """With two lots that cover all houses they need not."""
        world = small_world("letters", ((0, 1), (2,)))
        deeds = [("propose", 0, 0), ("write", 0), ("propose", 1, 0), ("write", 1), ("send", 0, 1), ("hand", 0), ("write", 1),
                 ("send", 1, 0), ("hand", 0), ("write", 0), ("send", 0, 1), ("hand", 0), ("write", 1),
                 ("propose", 2, 1), ("write", 2)]
        net = after_deeds(world.net(), deeds)
        self.assertEqual([disk.stable for disk in net.disks], [(0, 0, None), (0, 0, None), (None, None, 1)])


if __name__ == "__main__":
    unittest.main()
