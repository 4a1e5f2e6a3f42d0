"""firmvalues.servicetext: point 15.8, texts read back at every deed, and texts with something more, less, twice, spoilt."""

import unittest

from firmvalues.datatext import data_text, read_data
from firmvalues.disktext import net_text
from firmvalues.falls import Falls
from firmvalues.service import after_service_deed, begun_service, calm_service
from firmvalues.servicetext import read_service, service_text
from firmvalues.slots import Agenda
from agendas import decided_by_inputs
from reckon import error_of
from services import ShadowService, books_of, drawn_service, lively_agendas, plain_service, service_deed
from test_disktext import fault_by, net_data, net_kind, parts_of, things_for, with_part
from test_service import GREATEST, behind

UNREAD = ("UnreadService",)


def data_or_none(text):
    """The data of a canonical text, as a couple to tell it from None."""
    try:
        data = read_data(text)
    except ValueError:
        return None
    return (data,) if data_text(data) == text else None


def read_by(agenda, text):
    """(awake, data of the nets), None for what is no text of a service: line by line, by the words of the point."""
    parts = [data_or_none(row) for row in text.split("\n")]
    if None in parts:
        return None
    awake, nets = parts[0][0], [part[0] for part in parts[1:]]
    if not isinstance(awake, tuple) or not all(isinstance(house, int) and house < agenda.n for house in awake):
        return None
    if list(awake) != sorted(set(awake)):
        return None
    for net in nets:
        if fault_by(agenda.n, agenda.m, net_kind, net) is not None:
            return None
        if [house for house in range(agenda.n) if net[1][house] is not None] != list(awake):
            return None
    return (awake, nets) if slots_open(agenda, nets) == len(nets) else None


def slots_open(agenda, nets):
    """How many slots are open behind these nets: one is open exactly if the nets ahead open it."""
    for slot in range(len(agenda)):
        logs = []
        for house in range(agenda.n):
            told = [net[0][house][3] for net in nets[:slot]]
            logs.append(tuple(told[:told.index(None)] if None in told else told))
        longest = max(logs, key=len)
        if len(longest) < slot or decided_by_inputs(agenda, longest, {})[1] is None:
            return slot
        if slot == len(nets):
            return slot + 1
    return len(agenda)


class TestTexts(unittest.TestCase):
    def test_texts_as_they_stand(self):
        agenda = Agenda(Falls.at_most(2, 0), 2, "sure", [GREATEST])
        service = after_service_deed(begun_service(agenda), ("stop", 1))
        self.assertEqual(service_text(service), "(0)\n((((- -) (- -) - -) ((- -) (- -) - -)) (((- -) (- -) - -) -) () 0)")
        clashing = begun_service(Agenda(Falls.at_most(2, 1), 2, "sure", [("rule", ("all",))]))
        self.assertEqual(service_text(clashing), "(0 1)")
        self.assertEqual(read_service(clashing.agenda, "(0 1)"), clashing)
        for house in (0, 1):
            clashing = after_service_deed(clashing, ("stop", house))
        self.assertEqual(service_text(clashing), "()")
        self.assertEqual(read_service(clashing.agenda, "()"), clashing)

    def test_read_back_at_every_deed_as_if_never_cut(self):
        seen = {"several": 0, "clash": 0}
        for drawn, agenda in lively_agendas(6, 451):
            shadow = ShadowService(agenda, drawn)
            whole = cut = begun_service(agenda)
            for _ in range(45):
                text = service_text(cut)
                self.assertEqual(text, "\n".join([data_text(cut.awake)] + [net_text(net) for net in cut.nets]))
                cut = read_service(agenda, text)
                self.assertEqual(cut, whole)
                self.assertEqual(books_of(cut), shadow.books())
                if drawn.random() < 0.06:
                    shadow.calm()
                    whole, cut = calm_service(whole), calm_service(cut)
                else:
                    deed = service_deed(drawn, shadow)
                    shadow.do(deed)
                    whole, cut = after_service_deed(whole, deed), after_service_deed(cut, deed)
                self.assertEqual(plain_service(cut), shadow.plain())
            seen["several"] += len(cut.nets) > 1
            seen["clash"] += cut.clash is not None
        self.assertGreater(min(seen.values()), 2, seen)

    def some_texts(self, many, seed, steps=(0, 6, 12), houses=(2, 3)):
        for drawn, agenda in lively_agendas(many, seed, houses=houses):
            course, shadow = drawn_service(drawn, agenda, drawn.choice(steps), 0.15)
            yield drawn, agenda, behind(begun_service(agenda), course)

    def check(self, agenda, text):
        """Reads the text as the second reckoning does; True if it is one of a service."""
        wanted = read_by(agenda, text)
        if wanted is None:
            self.assertEqual(error_of(read_service, agenda, text), UNREAD, text)
            return False
        service = read_service(agenda, text)
        self.assertEqual((service.awake, [net_data(net) for net in service.nets]), wanted)
        self.assertEqual(service_text(service), text)
        return True

    def test_with_rows_more_less_or_twice(self):
        for drawn, agenda, service in self.some_texts(8, 452):
            text = service_text(service)
            rows = text.split("\n")
            self.assertTrue(self.check(agenda, text))
            others = [rows[:at] + rows[at + 1:] for at in range(len(rows))]
            others += [rows[:at] + [rows[at]] + rows[at:] for at in range(len(rows))]
            others += [rows + [net_text(begun_service(agenda).nets[0])] if begun_service(agenda).nets else rows + ["()"],
                       rows[::-1], rows + [""], [""] + rows, ["(%d)" % house for house in range(agenda.n)], []]
            for other in others:
                if other != rows:
                    self.check(agenda, "\n".join(other))
            for end in ("\n", " ", "x", "\n\n", "()", "\n()"):
                self.assertEqual(error_of(read_service, agenda, text + end), UNREAD)
                self.assertEqual(error_of(read_service, agenda, end + text), UNREAD)

    def test_with_any_sign_spoilt(self):
        right = 0
        for drawn, agenda, service in self.some_texts(4, 453):
            text = service_text(service)
            for at in range(0, len(text), max(1, len(text) // 120)):
                for other in (text[:at] + text[at + 1:], text[:at] + drawn.choice("01-() \n9a2") + text[at:],
                              text[:at] + drawn.choice("012-() \n") + text[at + 1:], text[:at], text[at:]):
                    right += self.check(agenda, other) and other != text
        self.assertGreater(right, 20)

    def test_with_any_part_spoilt(self):
        right = 0
        for drawn, agenda, service in self.some_texts(3, 454):
            rows = service_text(service).split("\n")
            for row in range(len(rows)):
                data = read_data(rows[row])
                paths = [path for path, _ in parts_of(data)]
                for path in drawn.sample(paths, min(len(paths), 60)):
                    for thing in things_for(drawn, agenda.n, agenda.m, 3):
                        other = rows[:row] + [data_text(with_part(data, path, [thing]))] + rows[row + 1:]
                        right += self.check(agenda, "\n".join(other)) and other != rows
        self.assertGreater(right, 20)

    def test_the_houses_awake(self):
        for drawn, agenda, service in self.some_texts(3, 455):
            rows = service_text(service).split("\n")
            for row in ("-", "0", "a", "", "(0 0)", "(1 0)", "(%d)" % agenda.n, "(-)", "((0))", "( 0)", "(0) ", "(a)", "()", "(0)",
                        "(0 1)", data_text(tuple(range(agenda.n)))):
                self.check(agenda, "\n".join([row] + rows[1:]))
                if row not in (data_text(service.awake),):
                    if len(rows) > 1:
                        self.assertEqual(error_of(read_service, agenda, "\n".join([row] + rows[1:])), UNREAD)

    def test_texts_of_another_service(self):
        texts = [(agenda, service_text(service)) for drawn, agenda, service in self.some_texts(5, 456)]
        refused = 0
        for agenda, _ in texts:
            for _, text in texts:
                refused += not self.check(agenda, text)
        self.assertGreater(refused, 100)

    def test_a_net_that_no_net_ahead_opens(self):
        agenda = Agenda(Falls.at_most(3, 1), 2, "letters", [GREATEST, GREATEST])
        service = begun_service(agenda)
        for house in range(3):
            service = after_service_deed(service, ("slot", 0, ("propose", house, 1)))
        rows = service_text(service).split("\n")
        told = service_text(calm_service(service)).split("\n")
        self.assertEqual((len(rows), len(told)), (2, 3))
        self.assertEqual(error_of(read_service, agenda, "\n".join(rows + told[2:])), UNREAD)
        self.assertEqual(error_of(read_service, agenda, "\n".join(told[:2])), UNREAD)
        self.assertEqual(error_of(read_service, agenda, "\n".join(told + told[2:])), UNREAD)
        self.assertIsNone(error_of(read_service, agenda, "\n".join(told)))

    def test_what_is_no_string(self):
        agenda = Agenda(Falls.at_most(2, 1), 2, "sure", [GREATEST])
        text = service_text(begun_service(agenda))
        for thing in (None, True, 5, text.encode(), [text], (text,), {}, text.split("\n")):
            self.assertEqual(error_of(read_service, agenda, thing), UNREAD)
        self.assertIsNone(error_of(read_service, agenda, text))


if __name__ == "__main__":
    unittest.main()
