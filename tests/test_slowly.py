"""firmvalues.slowly: point 14.4, courses with stops and wakes against those without."""

import unittest

from firmvalues.keepers import Disk
from firmvalues.nets import after_deed, after_deeds
from firmvalues.slowly import all_awake, judge_slow, slow_course
from courses import (Shadow, any_deeds, drawn_course, drawn_deed, plain_net, wanted_proposals, worlds_of_nets)
from reckon import error_of


def wake_all(shadow):
    other = shadow.copy()
    for house in range(shadow.world.n):
        if other.memories[house] is None:
            other.memories[house] = dict(other.disks[house])
    return other


def written_start(drawn, world, many):
    """A shadow behind some deeds in which each house that is awake has written its memory."""
    course, shadow = drawn_course(drawn, world, many, 0.2)
    for house in shadow.awake():
        for deed in (("write", house), ("stop", house), ("wake", house)):
            course.append(deed)
            shadow.do(deed)
    return course, shadow


def slow_by(shadow, course):
    """The slow course, deed by deed from the front, by looking for the next write or stop of the house."""
    shadow, rows = shadow.copy(), []
    for deed in course:
        house = shadow.way[deed[1]][1] if deed[0] == "hand" else deed[1] if deed[0] in ("propose", "write", "stop") else None
        rows.append((tuple(deed), house))
        shadow.do(deed)
    slow = []
    for at, (deed, house) in enumerate(rows):
        later = [other[0] for other, its in rows[at + 1:] if its == house and other[0] in ("write", "stop")]
        stops = later[:1] == ["stop"]
        if deed[0] in ("stop", "wake") or (deed[0] == "propose" and stops):
            continue
        slow.append(("lose", deed[1]) if deed[0] == "hand" and stops else deed)
    return tuple(slow)


def course_from(drawn, shadow, many):
    """Deeds that a net takes from where the shadow stands; stops and wakes are frequent. The shadow moves on."""
    wanted, course = wanted_proposals(drawn, shadow.world), []
    for _ in range(many):
        deed = drawn_deed(drawn, shadow, wanted, 0.4)
        shadow.do(deed)
        course.append(deed)
    return course


def judged_by(shadow, course, slow):
    """The verdict, by walking: nothing but the words of the point."""
    n, m = shadow.world.n, shadow.world.book.m
    end, walk = shadow.copy(), wake_all(shadow)
    for deed in course:
        end.do(deed)
    for index, deed in enumerate(slow):
        if not isinstance(deed, (list, tuple)) or not right_deed(n, m, tuple(deed)):
            return "deed", index
        if deed[0] in ("stop", "wake"):
            return "stop", index
        if walk.refused(deed):
            return "deed", index
        walk.do(deed)
    return None if walk.plain() == wake_all(end).plain() else ("end", len(slow))


def right_deed(n, m, deed):
    return any(deed == other and [type(x) for x in deed] == [type(x) for x in other] for other in any_deeds(n, m, 999))


class TestSlowly(unittest.TestCase):
    def worlds(self, many, seed, houses=(2, 3, 4, 5)):
        for drawn, world in worlds_of_nets(many, seed, houses=houses):
            before, shadow = written_start(drawn, world, drawn.choice([0, 15, 30]))
            net = after_deeds(world.net(), before)
            yield drawn, net, shadow

    def test_all_awake(self):
        asleep = 0
        for drawn, world in worlds_of_nets(8, 361):
            course, shadow = drawn_course(drawn, world, 40, 0.5)
            net = after_deeds(world.net(), course)
            self.assertEqual(plain_net(all_awake(net)), wake_all(shadow).plain())
            self.assertEqual(plain_net(net), shadow.plain())
            woken = net
            for house in range(world.n):
                if house not in net.awake_houses:
                    asleep += 1
                    woken = after_deed(woken, ("wake", house))
            self.assertEqual(all_awake(net), woken)
        self.assertGreater(asleep, 20)

    def test_slow_courses_lead_to_the_same_net(self):
        seen = {"lose": 0, "left out": 0, "kept": 0}
        for drawn, net, shadow in self.worlds(14, 362):
            first, kept = shadow.copy(), plain_net(net)
            course = course_from(drawn, shadow, drawn.choice([10, 40, 80]))
            slow = slow_course(net, [list(deed) for deed in course])
            self.assertEqual(slow, slow_by(first, course))
            self.assertEqual(after_deeds(all_awake(net), slow), all_awake(after_deeds(net, course)))
            self.assertIsNone(judge_slow(net, course, slow))
            self.assertIsNone(judge_slow(net, course, [list(deed) for deed in slow]))
            self.assertEqual(plain_net(net), kept)
            self.assertFalse([deed for deed in slow if deed[0] in ("stop", "wake")])
            words = [[deed[0] for deed in row] for row in (course, slow)]
            seen["lose"] += words[1].count("lose") - words[0].count("lose")
            seen["left out"] += words[0].count("propose") - words[1].count("propose")
            seen["kept"] += words[1].count("hand")
        self.assertGreater(min(seen.values()), 15)

    def test_courses_of_500_deeds(self):
        for drawn, world in worlds_of_nets(1, 363, houses=(3, 5)):
            course, shadow = drawn_course(drawn, world, 500, 0.2)
            slow = slow_course(world.net(), course)
            self.assertEqual(slow, slow_by(Shadow(world), course))
            self.assertIsNone(judge_slow(world.net(), course, slow))

    def test_the_judge_at_courses_with_one_deed_spoilt_left_out_or_put_in(self):
        seen = {}
        for drawn, net, shadow in self.worlds(3, 364, houses=(2, 3)):
            first, n, m = shadow.copy(), net.book.n, net.book.m
            course = course_from(drawn, shadow, 14)
            slow = slow_course(net, course)
            others = []
            for at in range(len(slow) + 1):
                new = [drawn.choice(any_deeds(n, m, 3)), drawn.choice([("stop", 0), ["wake", 9], (), None, ("hand", True),
                                                                        ("write", n), ["propose", 0], ("stop", 0, 0)])]
                others += [slow[:at] + (deed,) + slow[at:] for deed in new]
                if at < len(slow):
                    others += [slow[:at] + slow[at + 1:], slow[:at] + (drawn.choice(new),) + slow[at + 1:]]
            for other in others:
                told = judged_by(first, course, other)
                self.assertEqual(judge_slow(net, course, other), told)
                self.assertEqual(judge_slow(net, course, list(other)), told)
                seen[told and told[0]] = seen.get(told and told[0], 0) + 1
        self.assertGreater(min(seen[word] for word in (None, "deed", "stop", "end")), 10)

    def test_any_right_course_passes(self):
        for drawn, net, shadow in self.worlds(3, 365):
            course = course_from(drawn, shadow, 20)
            slow = slow_course(net, course)
            longer = slow + (("write", 0), ("write", 0))
            self.assertEqual(judge_slow(net, course, longer) is None,
                             after_deeds(all_awake(net), longer) == all_awake(after_deeds(net, course)))
            if shadow.way:
                self.assertIsNone(judge_slow(net, course, (*slow, ("double", 0), ("lose", len(shadow.way)))))

    def test_who_has_not_written(self):
        found = set()
        for drawn, world in worlds_of_nets(10, 366):
            course, shadow = drawn_course(drawn, world, 25, 0.2)
            net = after_deeds(world.net(), course)
            wrong = [h for h in shadow.awake() if shadow.memories[h] != shadow.disks[h]]
            for deeds in ((), [("hand", 999)], [["fall", 0]]):
                told = error_of(slow_course, net, deeds)
                if wrong:
                    self.assertEqual(told, ("Unwritten", wrong[0]))
                    found.add(wrong[0])
                    written = after_deeds(net, [("write", house) for house in shadow.awake()])
                    self.assertEqual(error_of(slow_course, written, deeds), error_of(after_deeds, written, deeds))
                else:
                    self.assertEqual(told, None if deeds == () else error_of(after_deeds, net, deeds))
        self.assertLessEqual({0, 1, 2}, found)

    def test_a_disk_that_is_unlike_in_any_part_is_unwritten(self):
        for drawn, world in worlds_of_nets(1, 367, houses=(3,)):
            for parts in (((0, None, None), (None,) * 3, None, None), ((None,) * 3, (None, (None,) * 3, None), None, None),
                          ((None,) * 3, (None,) * 3, (None,) * 3, None), ((None,) * 3, (None,) * 3, None, 0)):
                net = world.net()
                net.memories = (net.memories[0], Disk(*parts), net.memories[2])
                self.assertEqual(error_of(slow_course, net, ()), ("Unwritten", 1))
                net.memories = (None, None, None)
                self.assertEqual(slow_course(net, ()), ())

    def test_the_first_deed_that_is_refused(self):
        for drawn, net, shadow in self.worlds(3, 368):
            course = course_from(drawn, shadow, 12)
            for wrong in (("hand", 999), ["write", True], "no deed", ("send", 0, 0)):
                at = drawn.randrange(13)
                spoilt = course[:at] + [wrong, ("lose", -1)] + course[at:]
                self.assertEqual(error_of(slow_course, net, spoilt), error_of(after_deeds, net, spoilt))
                self.assertIsNotNone(error_of(slow_course, net, spoilt))

    def test_a_stop_ahead_of_a_write_and_behind_it(self):
        for drawn, world in worlds_of_nets(1, 369, houses=(2,)):
            net = world.net()
            course = [("propose", 0, 0), ("stop", 0), ("wake", 0), ("propose", 0, 0), ("send", 1, 0), ("double", 0),
                      ("hand", 0), ("write", 0), ("hand", 0), ("stop", 0)]
            self.assertEqual(slow_course(net, course), (("propose", 0, 0), ("send", 1, 0), ("double", 0), ("hand", 0),
                                                        ("write", 0), ("lose", 0)))
            self.assertEqual(slow_course(net, course[:-1]), (("propose", 0, 0), ("send", 1, 0), ("double", 0), ("hand", 0),
                                                             ("write", 0), ("hand", 0)))


if __name__ == "__main__":
    unittest.main()
