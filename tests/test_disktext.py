"""firmvalues.disktext: points 14.2 and 14.3, disks and nets read back, and texts with any part spoilt."""

import random
import unittest

from firmvalues.datatext import data_text, read_data
from firmvalues.disktext import disk_text, net_text, read_disk, read_net
from firmvalues.keepers import Disk
from firmvalues.letters import Letter
from firmvalues.nets import Net, after_deed, after_deeds
from courses import Shadow, as_parts, drawn_course, drawn_deed, plain_net, wanted_proposals, worlds_of_nets
from reckon import error_of

NO_MANNERS = ("cells", "", None, True, [], "Sure")


def told_text(drawn, data, begins, path=(), at=0):
    """A text of the data with blanks and line feeds wherever they may stand; where each part begins is kept."""
    gap = drawn.choice(["", "", " ", "\n", "  ", "\n "]) if drawn else ""
    text = gap
    begins[path] = at + len(text)
    if not isinstance(data, (list, tuple)):
        return text + data_text(data) + (drawn.choice(["", " "]) if drawn else "")
    text += "("
    for k, part in enumerate(data):
        if k and text[-1] not in "() \n":
            text += " "
        text += told_text(drawn, part, begins, path + (k,), at + len(text))
    return text + ")"


def disk_kind(n, path):
    """What must stand at this path of a disk: ("tuple", count, may be None), or ("number", may be None)."""
    if path == ():
        return "tuple", 4, False
    if path == (3,):
        return "value", None, True
    if path in ((0,), (1,), (2,)):
        return "tuple", n, path == (2,)
    if path[0] == 1 and len(path) == 2:
        return "tuple", n, True
    return "value", None, True


def net_kind(n, path):
    if path == ():
        return "tuple", 4, False
    if path in ((0,), (1,), (2,)):
        return "tuple", None if path == (2,) else n, False
    if path == (3,):
        return "whole", None, False
    if path[0] < 2:
        kind, count, may_be_none = disk_kind(n, path[2:])
        return kind, count, may_be_none or (path[0] == 1 and len(path) == 2)
    if len(path) == 2:
        return "tuple", 4, False
    if len(path) == 3:
        return (("sender", None, False), ("receiver", None, False), ("tuple", n, False), ("value", None, True))[path[2]]
    return "value", None, True


def parts_of(data, path=()):
    yield path, data
    if isinstance(data, (list, tuple)):
        for k, part in enumerate(data):
            yield from parts_of(part, path + (k,))


def fault_by(n, m, kind_of, data):
    """The path of the first part, in the order of their beginnings, that is not what must stand there."""
    sender = None
    for path, part in parts_of(data):
        kind, count, may_be_none = kind_of(n, path)
        if part is None and may_be_none:
            continue
        if kind == "tuple":
            if not isinstance(part, (list, tuple)) or count not in (None, len(part)):
                return path
            continue
        if not isinstance(part, int) or part >= {"value": m, "sender": n, "receiver": n}.get(kind, 10 ** 9):
            return path
        if kind == "receiver" and part == sender:
            return path
        sender = part if kind == "sender" else sender
    return None


def spoilings(data, things):
    """The data with one part spoilt, left out or put in, at every part."""
    for path, part in parts_of(data):
        for thing in things:
            yield with_part(data, path, [thing])
        if path:
            yield with_part(data, path, [])
            for thing in (things[0], part):
                yield with_part(data, path, [thing, part])
        if isinstance(part, tuple):
            yield with_part(data, path, [part + (things[1],)])


def with_part(data, path, parts):
    """The data in which these parts stand in the place of the one at the path."""
    if path == ():
        return parts[0]
    at = path[0]
    if len(path) == 1:
        return data[:at] + tuple(parts) + data[at + 1:]
    return data[:at] + (with_part(data[at], path[1:], parts),) + data[at + 1:]


def things_for(drawn, n, m, many):
    things = [None, 0, m - 1, m, n - 1, n, 7, 999999999, "told", "a b", (), (None,) * n, (0,) * n, (0,) * (n + 1),
              ((None,) * n,) * n, (0, 1, (None,) * n, None), ((None,) * n, (None,) * n, None, None)]
    return drawn.sample(things, many)


def net_data(net):
    disks, memories, way, sent = plain_net(net)[:4]
    return disks, memories, way, sent


class TestTexts(unittest.TestCase):
    def some_nets(self, many, seed, most=25, houses=(2, 3, 4, 5)):
        for drawn, world in worlds_of_nets(many, seed, houses=houses):
            course, _ = drawn_course(drawn, world, drawn.randrange(most), 0.2)
            yield drawn, world, after_deeds(world.net(), course)

    def test_texts_are_the_canonical_ones_and_read_back(self):
        for drawn, world, net in self.some_nets(10, 341, 60):
            self.assertEqual(net_text(net), data_text(net_data(net)))
            self.assertEqual(read_net(*world.parts(), net_text(net)), net)
            self.assertEqual(read_net(*world.parts(), told_text(drawn, net_data(net), {})), net)
            for disk in (*net.disks, *[memory for memory in net.memories if memory]):
                self.assertEqual(disk_text(disk), data_text(as_parts(disk)))
                self.assertEqual(read_disk(world.n, world.book.m, disk_text(disk)), disk)
                self.assertEqual(read_disk(world.n, world.book.m, told_text(drawn, as_parts(disk), {})), disk)

    def test_a_text_as_it_stands(self):
        disk = Disk((0, None), (None, (0, 1)), (0, None), 1)
        self.assertEqual(disk_text(disk), "((0 -) (- (0 1)) (0 -) 1)")
        for drawn, world in worlds_of_nets(1, 342, houses=(2,)):
            net = after_deeds(world.net(), [("propose", 0, 0), ("send", 0, 1), ("stop", 1)])
            self.assertEqual(net_text(net), "((((- -) (- -) - -) ((- -) (- -) - -)) (((0 -) (- -) - -) -) ((0 1 (- -) -)) 1)")

    def test_a_net_cut_and_read_at_every_deed_goes_on(self):
        for drawn, world in worlds_of_nets(3, 343):
            shadow, wanted = Shadow(world), wanted_proposals(drawn, world)
            whole = cut = world.net()
            for _ in range(60):
                deed = drawn_deed(drawn, shadow, wanted)
                shadow.do(deed)
                whole = after_deed(whole, deed)
                cut = after_deed(read_net(*world.parts(), net_text(cut)), deed)
                self.assertEqual(plain_net(cut), shadow.plain())
                self.assertEqual(cut, whole)

    def test_disks_with_one_part_spoilt_at_every_part(self):
        drawn, seen = random.Random(344), {None: 0}
        for _ in range(24):
            n, m = drawn.choice([2, 3]), drawn.choice([1, 2, 3])
            view = lambda: tuple(drawn.choice([None, drawn.randrange(m)]) for _ in range(n))
            data = (view(), tuple(drawn.choice([None, view()]) for _ in range(n)), drawn.choice([None, view()]),
                    drawn.choice([None, 0]))
            for spoilt in spoilings(data, things_for(drawn, n, m, 9)):
                begins = {}
                text = told_text(drawn, spoilt, begins)
                path = fault_by(n, m, disk_kind, spoilt)
                seen[path] = seen.get(path, 0) + 1
                if path is None:
                    self.assertEqual(as_parts(read_disk(n, m, text)), spoilt)
                else:
                    self.assertEqual(error_of(read_disk, n, m, text), ("BadText", begins[path]), text)
        self.assertGreater(seen[None], 20)
        self.assertLessEqual({(), (0,), (1,), (2,), (3,), (0, 0), (0, 1), (1, 0), (1, 1), (1, 0, 0), (1, 1, 1), (2, 0)}, set(seen))

    def test_nets_with_one_part_spoilt_at_every_part(self):
        seen = {None: 0}
        for drawn, world, net in self.some_nets(4, 345, houses=(2, 3)):
            n, m = world.n, world.book.m
            for spoilt in spoilings(net_data(net), things_for(drawn, n, m, 5)):
                begins = {}
                text = told_text(drawn if drawn.random() < 0.2 else None, spoilt, begins)
                path = fault_by(n, m, net_kind, spoilt)
                seen[path and path[:3]] = seen.get(path and path[:3], 0) + 1
                if path is None:
                    self.assertEqual(net_data(read_net(*world.parts(), text)), spoilt)
                else:
                    self.assertEqual(error_of(read_net, *world.parts(), text), ("BadText", begins[path]), text)
        self.assertGreater(seen[None], 20)
        self.assertLessEqual({(), (0,), (1,), (2,), (3,), (0, 0), (1, 0), (2, 0), (0, 0, 0), (1, 0, 1), (2, 0, 0), (2, 0, 1),
                              (2, 0, 2), (2, 0, 3)}, set(seen))

    def test_with_two_parts_spoilt_the_first_is_told(self):
        for drawn, world, net in self.some_nets(3, 346, houses=(2, 3)):
            n, m = world.n, world.book.m
            for _ in range(150):
                data = net_data(net)
                for thing in things_for(drawn, n, m, 2):
                    paths = [path for path, _ in parts_of(data)]
                    data = with_part(data, drawn.choice(paths), [thing])
                begins = {}
                text = told_text(None, data, begins)
                path = fault_by(n, m, net_kind, data)
                wanted = None if path is None else ("BadText", begins[path])
                self.assertEqual(error_of(read_net, *world.parts(), text), wanted)

    def test_a_receiver_who_is_the_sender(self):
        for drawn, world in worlds_of_nets(1, 347, houses=(3,)):
            blank = net_text(world.net())
            for sender in range(5):
                for receiver in range(5):
                    for view in ("(- - -)", "(- - x)"):
                        text = blank.replace(" () 0)", f" (({sender} {receiver} {view} -)) 0)")
                        at = text.index("((%d %d" % (sender, receiver)) + 2
                        place = at if sender > 2 else at + 2 if receiver > 2 or receiver == sender else at + 10
                        wanted = None if place == at + 10 and view == "(- - -)" else ("BadText", place if place < at + 10 else text.index("x"))
                        self.assertEqual(error_of(read_net, *world.parts(), text), wanted)

    def test_nothing_else_is_compared(self):
        """Nets that no course leads to are read as they stand."""
        for drawn, world in worlds_of_nets(1, 348, houses=(2, 3)):
            n, m = world.n, world.book.m
            any_view = lambda: tuple(drawn.choice([None, drawn.randrange(m)]) for _ in range(n))
            any_disk = lambda: (any_view(), tuple(any_view() for _ in range(n)), any_view(), drawn.randrange(m))
            for _ in range(20):
                data = (tuple(any_disk() for _ in range(n)), tuple(drawn.choice([None, any_disk()]) for _ in range(n)),
                        ((0, 1, any_view(), drawn.randrange(m)),) * drawn.randrange(3), drawn.choice([0, 999999999]))
                net = read_net(*world.parts(), data_text(data))
                self.assertEqual(plain_net(net)[:4], data)
                self.assertEqual(net_text(net), data_text(data))
                other = Net(*world.parts())
                other.disks = tuple(Disk(*disk) for disk in data[0])
                other.memories = tuple(disk and Disk(*disk) for disk in data[1])
                other.way, other.sent = tuple(Letter(*letter) for letter in data[2]), data[3]
                self.assertEqual(net, other)

    def test_texts_that_are_no_data(self):
        for drawn, world, net in self.some_nets(1, 349, houses=(2, 3)):
            text = net_text(net)
            spoilt = [text[:at] for at in range(len(text))] + [text + end for end in (")", " 0", "x", "(")]
            spoilt += [text[:at] + drawn.choice("X%_-9a(") + text[at:] for at in range(0, len(text), 2)]
            for other in spoilt:
                told = error_of(read_data, other)
                if told is not None:
                    self.assertEqual(error_of(read_net, *world.parts(), other), told)
                    self.assertEqual(error_of(read_disk, world.n, world.book.m, other), told)
        for text, place in (("", 0), ("()", 0), (" ()", 1), ("-", 0), ("a", 0), ("((0 -) (- -) -", 14), ("(9 X", 3), ("0 0", 2)):
            self.assertEqual(error_of(read_disk, 2, 2, text), ("BadText", place))

    def test_manners_come_first(self):
        for drawn, world, net in self.some_nets(1, 350, houses=(2,)):
            book, falls, outcomes, _ = world.parts()
            for manner in NO_MANNERS:
                for text in (net_text(net), "", "()"):
                    self.assertEqual(error_of(read_net, book, falls, outcomes, manner, text), ("BadManner", manner))


if __name__ == "__main__":
    unittest.main()
