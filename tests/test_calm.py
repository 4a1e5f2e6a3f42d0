"""firmvalues.calm: points 14.5 and 14.6, rounds against a second count, and what holds behind them."""

import unittest

from firmvalues.books import Book
from firmvalues.calm import Calm, calm_end, calm_round
from firmvalues.disktext import read_net
from firmvalues.falls import Falls
from firmvalues.nets import after_deed, after_deeds
from firmvalues.outcomes import Outcomes
from courses import (Shadow, agrees, drawn_course, end_by, joined, net_of, plain_net, round_by, wanted_proposals,
                     worlds_of_nets)
from reckon import error_of


def some_shadows(many, seed, houses=(2, 3, 4, 5), right=True):
    for drawn, world in worlds_of_nets(many, seed, houses=houses, right=right):
        course, shadow = drawn_course(drawn, world, drawn.choice([0, 5, 20, 60]), drawn.choice([0.0, 0.1, 0.5]))
        for house in drawn.sample(shadow.awake(), drawn.choice([0, 0, len(shadow.awake()) // 2])):
            course.append(("stop", house))
            shadow.do(("stop", house))
        yield drawn, after_deeds(world.net(), course), shadow


def goes_on(shadow):
    return any(agrees(shadow.proposals(), entry) for entry in shadow.world.book.inputs)


def joined_view(shadow):
    view = (None,) * shadow.world.n
    for house in shadow.awake():
        view = joined(view, shadow.disks[house]["view"])
    return view


class TestCalm(unittest.TestCase):
    def test_attributes_and_equality(self):
        for drawn, net, shadow in some_shadows(1, 371, houses=(2,)):
            calm = Calm(net, 2, 4)
            self.assertEqual((calm.net, calm.rounds, calm.sent), (net, 2, 4))
            self.assertEqual(calm, Calm(net_of(shadow), rounds=2, sent=4))
            for other in (Calm(after_deed(net, ("send", 0, 1)) if 0 in net.awake_houses else None, 2, 4), Calm(net, 3, 4),
                          Calm(net, 2, 5), (net, 2, 4), None):
                self.assertNotEqual(calm, other)

    def test_rounds_deed_by_deed(self):
        for drawn, net, shadow in some_shadows(10, 372):
            kept = plain_net(net)
            for _ in range(3):
                behind = round_by(shadow)
                made = calm_round(net)
                self.assertEqual(plain_net(made), behind.plain())
                self.assertEqual((made.book, made.falls, made.outcomes, made.manner), shadow.world.parts())
                self.assertEqual(plain_net(net), shadow.plain())
                shadow, net = behind, made
            self.assertIsNotNone(kept)

    def test_the_end_against_a_second_count(self):
        counts = {}
        for drawn, net, shadow in some_shadows(40, 373):
            behind, rounds = end_by(shadow)
            kept = plain_net(net)
            calm = calm_end(net)
            awake = len(shadow.awake())
            self.assertEqual(plain_net(calm.net), behind.plain())
            self.assertEqual((calm.rounds, calm.sent), (rounds, rounds * awake * (awake - 1)))
            self.assertEqual(calm.sent, calm.net.sent - net.sent)
            self.assertIn(calm.rounds, range(1, 7))
            self.assertEqual(plain_net(net), kept)
            self.assertEqual(calm_end(calm.net).rounds, 1)
            counts[rounds] = counts.get(rounds, 0) + 1
        self.assertLessEqual({1, 2, 3, 4}, set(counts))

    def test_outcomes_that_are_not_right_come_to_rest_too(self):
        for drawn, net, shadow in some_shadows(8, 374, right=False):
            behind, rounds = end_by(shadow)
            calm = calm_end(net)
            self.assertEqual((plain_net(calm.net), calm.rounds), (behind.plain(), rounds))
            self.assertLessEqual(calm.rounds, 6)

    def test_nobody_awake_and_one_alone(self):
        for drawn, world in worlds_of_nets(2, 375):
            course = [("send", 0, 1), ("propose", 0, 0)] + [("stop", house) for house in range(world.n)]
            net = after_deeds(world.net(), course)
            self.assertEqual(calm_end(net), Calm(net, 1, 0))
            self.assertEqual(calm_round(net), net)
            alone = after_deeds(net, [("wake", 1)])
            calm = calm_end(alone)
            self.assertEqual((calm.sent, len(calm.net)), (0, 0))
            self.assertEqual(calm.net.memories[1], calm.net.disks[1])

    def test_six_rounds_are_the_most(self):
        """A net, found by drawing, that takes all six: a house sleeps, and a late letter holds all three values."""
        book, falls = Book(3, 2, [(0, 1, 1), (1, 1, 0)]), Falls(3, [])
        text = ("((((0 1 -) (- (- 1 -) (- - -)) - -) ((- 1 -) ((- - -) - -) - -) ((0 1 1) ((0 - -) (- 1 -) -) - -)) "
                "(((0 1 -) (- (- 1 -) (- - -)) - -) ((- 1 -) ((- - -) - -) - -) -) ((2 0 (0 1 1) -)) 20)")
        net = read_net(book, falls, Outcomes(book.inputs, (1, 1)), "letters", text)
        calm = calm_end(net)
        self.assertEqual((calm.rounds, calm.sent, calm.net.sent), (6, 12, 32))
        self.assertEqual([calm.net.disks[house].view for house in (0, 1)], [(0, 1, 1)] * 2)

    def test_letters_to_houses_that_sleep_stay(self):
        stayed = 0
        for drawn, net, shadow in some_shadows(20, 376):
            calm = calm_end(net)
            left = [letter for letter in net if letter.receiver not in net.awake_houses]
            self.assertEqual(list(calm.net), left)
            stayed += len(left)
        self.assertGreater(stayed, 10)

    def test_what_holds_behind_it(self):
        seen = {"all": 0, "none": 0, "quorum": 0}
        for drawn, net, shadow in some_shadows(30, 377):
            world, behind = shadow.world, calm_end(net).net
            awake = behind.awake_houses
            self.assertEqual(awake, net.awake_houses)
            self.assertLessEqual(len({behind.disks[house].view for house in awake}), 1)
            self.assertTrue(all(behind.memories[house] == behind.disks[house] for house in awake))
            self.assertFalse([letter for letter in behind if letter.receiver in awake])
            if world.manner == "letters" or goes_on(shadow):
                told = {behind.told_values[house] for house in awake}
                self.assertLessEqual(len(told), 1)
                if awake:
                    seen["none" if told == {None} else "all"] += 1
                proposed = all(shadow.memories[house]["view"][house] is not None for house in awake)
                if world.is_quorum(awake) and proposed and goes_on(shadow):
                    self.assertNotIn(None, told)
                    seen["quorum"] += 1
        self.assertGreater(min(seen.values()), 20)

    def test_exactly_if(self):
        """At the beginning no letter is on the way to a house that is awake, and no write changes a disk."""
        seen = {}
        for drawn, net, shadow in some_shadows(70, 378):
            if drawn.random() < 0.5:
                shadow = self.written_alone(drawn, shadow.world)
            world, awake = shadow.world, shadow.awake()
            if not awake or not (world.manner == "letters" or goes_on(shadow)):
                continue
            self.settle_down(drawn, shadow)
            net = net_of(shadow)
            view = joined_view(shadow)
            had_told = any(shadow.disks[house]["told"] is not None for house in awake)
            if world.manner == "sure":
                settles = world.settles(view) is not None
            else:
                hearing = [world.is_quorum({*awake, *[h for h in range(world.n) if shadow.disks[house]["heard"][h] == view]})
                           for house in awake]
                settles = world.opens(view) is not None and any(hearing)
            told = {calm_end(net).net.told_values[house] for house in awake}
            self.assertEqual(None not in told, had_told or settles)
            self.assertEqual(len(told), 1)
            key = world.manner, had_told, settles, None not in told
            seen[key] = seen.get(key, 0) + 1
        for key in (("sure", False, False, False), ("sure", False, True, True), ("letters", False, False, False),
                    ("letters", False, True, True), ("sure", True, True, True), ("letters", True, True, True)):
            self.assertGreater(seen[key], 2, key)

    def written_alone(self, drawn, world):
        """Most houses have proposed and written, and nobody has heard anything."""
        shadow, wanted = Shadow(world), wanted_proposals(drawn, world)
        for house in range(world.n):
            if drawn.random() < 0.8:
                shadow.do(("propose", house, wanted[house]))
            if drawn.random() < 0.3:
                shadow.do(("stop", house))
        return shadow

    def settle_down(self, drawn, shadow):
        """Loses or hands what is on the way to those awake; then they write."""
        awake = shadow.awake()
        for at in reversed(range(len(shadow.way))):
            if shadow.way[at][1] in awake:
                shadow.do((drawn.choice(["hand", "lose"]), at))
        for house in awake:
            shadow.do(("write", house))

    def test_a_net_of_five_houses(self):
        for drawn, world in worlds_of_nets(1, 379, houses=(5,)):
            course = [deed for house in range(5) for deed in (("propose", house, 0), ("write", house))]
            calm = calm_end(after_deeds(world.net(), course))
            self.assertEqual(calm.sent, calm.rounds * 20)
            self.assertIsNone(error_of(calm_end, calm.net))


if __name__ == "__main__":
    unittest.main()
