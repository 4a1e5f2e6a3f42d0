"""firmvalues.service: points 15.5 to 15.9, behind every deed of drawn courses, by a second walk."""

import copy
import itertools
import time
import unittest

from firmvalues.books import book_of
from firmvalues.falls import Falls
from firmvalues.inputs import all_inputs
from firmvalues.keepers import Disk
from firmvalues.nets import after_deed
from firmvalues.outcomes import decide
from firmvalues.registers import Commands
from firmvalues.service import (Service, after_service_course, after_service_deed, all_logs, begun_service, calm_service,
                                check_service_deed, each_service, is_finished, log_of_house, longest_log, read_at)
from firmvalues.slots import Agenda, entries_for, first_stuck, is_sound
from agendas import all_logs_of, decided_by_inputs, possible_by, some_agendas
from reckon import NO_SEQUENCES, error_of
from services import (ShadowService, all_service_deeds, books_of, drawn_service, lively_agendas, plain_service, service_deed,
                      service_of)

NO_NUMBERS = (True, False, None, -1, "0", 0.5, (0,), [0], {}, 99)
GREATEST = ("rule", ("firm greatest",))


def as_lists(thing):
    return [as_lists(part) for part in thing] if isinstance(thing, tuple) else thing


def behind(service, course):
    """The service behind deeds and calms (None)."""
    for deed in course:
        service = calm_service(service) if deed is None else after_service_deed(service, deed)
    return service


class TestServices(unittest.TestCase):
    def check(self, service, shadow):
        self.assertEqual(plain_service(service), shadow.plain())
        self.assertEqual(books_of(service), shadow.books())
        self.assertEqual(all_logs(service), shadow.logs())
        self.assertEqual([log_of_house(service, house) for house in range(shadow.agenda.n)], list(shadow.logs()))
        self.assertEqual(longest_log(service), shadow.longest())
        self.assertEqual(is_finished(service), len(shadow.longest()) == len(shadow.agenda))
        self.assertEqual(service.agenda, shadow.agenda)

    def test_begun_services(self):
        clashes = 0
        for drawn, agenda in some_agendas(20, 431):
            shadow = ShadowService(agenda, drawn)
            service = begun_service(agenda)
            self.check(service, shadow)
            self.assertEqual(service.awake, tuple(range(agenda.n)))
            self.assertEqual(len(service.nets), 0 if shadow.clash else 1)
            clashes += shadow.clash is not None
        self.assertGreater(clashes, 10)

    def test_behind_every_deed_of_drawn_courses(self):
        seen = {"slots": 0, "clash": 0, "asleep": 0, "finished": 0}
        for drawn, agenda in lively_agendas(14, 432):
            shadow, service = ShadowService(agenda, drawn), begun_service(agenda)
            logs = all_logs(service)
            for _ in range(drawn.choice([30, 60, 90])):
                before = shadow.plain()
                if drawn.random() < 0.04:
                    made = calm_service(service)
                    shadow.calm()
                else:
                    deed = service_deed(drawn, shadow)
                    made = after_service_deed(service, as_lists(deed))
                    shadow.do(deed)
                self.assertEqual(plain_service(service), before)
                self.check(made, shadow)
                self.assertTrue(all(new[:len(old)] == old for old, new in zip(logs, all_logs(made))))
                service, logs = made, all_logs(made)
            self.assertEqual(service, service_of(shadow))
            seen["slots"] += len(service.nets) > 1
            seen["clash"] += service.clash is not None
            seen["asleep"] += len(service.awake) < agenda.n
            seen["finished"] += is_finished(service)
        self.assertGreater(min(seen.values()), 5, seen)

    def test_every_deed_at_every_moment(self):
        words = {}
        for drawn, agenda in lively_agendas(6, 433, houses=(2, 3)):
            shadow, service = ShadowService(agenda, drawn), begun_service(agenda)
            if drawn.random() < 0.4:
                service = calm_service(self.proposed(drawn, service, shadow))
                shadow.calm()
            for _ in range(20):
                places = max([len(net.way) for net in shadow.shadows], default=0) + 1
                for deed in all_service_deeds(agenda, min(places, 4)):
                    refused = shadow.refused(deed)
                    if refused is None:
                        if drawn.random() < 0.1:
                            other = shadow.copy()
                            other.do(deed)
                            self.assertEqual(plain_service(after_service_deed(service, deed)), other.plain())
                    else:
                        self.assertEqual(error_of(after_service_deed, service, deed), refused, deed)
                        words[refused[:2] if refused[0] == "NoDeed" else refused[0]] = deed
                self.assertEqual(plain_service(service), shadow.plain())
                deed = service_deed(drawn, shadow, 0.15)
                service = after_service_deed(service, deed)
                shadow.do(deed)
        self.assertEqual(set(words), {"Clashing", "NotOpen", "Behind", "NotOfBook"} | {
            ("NoDeed", what) for what in ("letter", "self", "asleep", "awake", "proposed")})

    def proposed(self, drawn, service, shadow):
        """Behind proposals of all houses in slot 0."""
        for house in range(shadow.agenda.n if shadow.shadows else 0):
            deed = ("slot", 0, ("propose", house, shadow.wanted[0][house]))
            if shadow.refused(deed) is None:
                shadow.do(deed)
                service = after_service_deed(service, deed)
        return service

    def test_results(self):
        agenda = Agenda(Falls.at_most(3, 1), 2, "letters", [GREATEST])
        service = begun_service(agenda)
        net = service.nets[0]
        self.assertEqual((service.agenda, service.awake, service.nets, service.clash), (agenda, (0, 1, 2), (net,), None))
        self.assertEqual(service, Service(agenda, [0, 1, 2], [net], None))
        for other in (Service(agenda, (0, 1), (net,), None), Service(agenda, (0, 1, 2), (), None),
                      Service(agenda, (0, 1, 2), (net,), 0), Service(None, (0, 1, 2), (net,), None),
                      Service(agenda, (0, 1, 2), (after_deed(net, ("stop", 0)),), None), None, agenda):
            self.assertNotEqual(service, other)
        self.assertEqual(type(Service(agenda, [0], [net], None).nets), tuple)


class TestDeeds(unittest.TestCase):
    AGENDA = Agenda(Falls.at_most(3, 1), 2, "letters", [GREATEST, GREATEST])

    def told(self, deed):
        told = error_of(check_service_deed, self.AGENDA, deed)
        service = begun_service(self.AGENDA)
        self.assertEqual(error_of(after_service_deed, service, deed) if told else None, told)
        return told

    def test_right_deeds_come_back_as_nested_tuples(self):
        for deed in all_service_deeds(self.AGENDA, 3):
            for thing in (deed, as_lists(deed)):
                self.assertEqual(check_service_deed(self.AGENDA, thing), deed)
        deed = ["slot", 1, ["propose", 0, 1]]
        checked = check_service_deed(self.AGENDA, deed)
        deed[2][2] = 0
        self.assertEqual(checked, ("slot", 1, ("propose", 0, 1)))

    def test_every_word(self):
        for thing in NO_SEQUENCES + ((), [], "slot"):
            self.assertEqual(self.told(thing), ("BadDeed", "word"))
        for word in ("write", "propose", "calm", "", "Slot", None, 0, True, ("slot",), ["stop"], {}):
            for rest in ((), (0,), (0, ("write", 0))):
                self.assertEqual(self.told((word, *rest)), ("BadDeed", "word"))
        for word, many in (("slot", 2), ("stop", 1), ("wake", 1)):
            for other in range(5):
                if other != many:
                    self.assertEqual(self.told([word] + [None] * other), ("BadDeed", "length"))
        for word, thing in itertools.product(("stop", "wake"), NO_NUMBERS + (3,)):
            self.assertEqual(self.told((word, thing)), ("BadDeed", "house"))
        for slot in NO_NUMBERS + (2,):
            for inner in (("write", 0), ("stop", 0), None, ("write", 9)):
                self.assertEqual(self.told(("slot", slot, inner)), ("BadDeed", "slot"))
        for inner, what in [(thing, "word") for thing in NO_SEQUENCES + ((), ("fall", 0), ("slot", 0, ("write", 0)))] + [
                (("write",), "length"), (("stop", 0, 0), "length"), (("stop", 3), "house"), (("wake", True), "house"),
                (("send", 0, 3), "house"), (("propose", 0, 2), "value"), (("propose", 0, False), "value"),
                (("propose", 3, 9), "house"), (("hand", -1), "at"), (("lose", None), "at"), (("stop", 0), "inner"),
                (["wake", 2], "inner"), (("wake", 0), "inner")]:
            for slot in (0, 1):
                self.assertEqual(self.told(("slot", slot, inner)), ("BadDeed", what), inner)

    def test_stops_and_wakes_are_done_in_every_net(self):
        service = begun_service(self.AGENDA)
        entry = (0, 1, 1)
        for house in range(3):
            service = after_service_deed(service, ("slot", 0, ("propose", house, entry[house])))
        service = calm_service(service)
        self.assertEqual((len(service.nets), all_logs(service)), (2, ((1,),) * 3))
        stopped = after_service_deed(service, ("stop", 1))
        self.assertEqual((stopped.awake, [net.awake_houses for net in stopped.nets]), ((0, 2), [(0, 2)] * 2))
        self.assertEqual(error_of(after_service_deed, stopped, ("stop", 1)), ("NoDeed", "asleep", 1))
        self.assertEqual(error_of(after_service_deed, stopped, ("wake", 0)), ("NoDeed", "awake", 0))
        self.assertEqual(after_service_deed(stopped, ("wake", 1)), service)
        self.assertEqual(error_of(after_service_deed, stopped, ("slot", 1, ("propose", 1, 0))), ("NoDeed", "asleep", 1))
        self.assertIsNone(error_of(after_service_deed, after_service_deed(stopped, ("wake", 1)), ("slot", 1, ("propose", 1, 0))))

    def test_a_slot_that_opens_has_the_sleepers_stopped(self):
        service = begun_service(self.AGENDA)
        for deed in [("stop", 2)] + [("slot", 0, ("propose", house, 1)) for house in (0, 1)]:
            service = after_service_deed(service, deed)
        service = calm_service(service)
        self.assertEqual([net.awake_houses for net in service.nets], [(0, 1), (0, 1)])
        self.assertEqual(all_logs(service), ((1,), (1,), ()))
        for deed, told in ((("propose", 2, 0), ("Behind", 2, 1)), (("write", 2), ("Behind", 2, 1)),
                           (("send", 2, 0), ("Behind", 2, 1)), (("send", 2, 2), ("Behind", 2, 1)),
                           (("send", 0, 0), ("NoDeed", "self", 0)), (("hand", 0), ("NoDeed", "letter", 0))):
            self.assertEqual(error_of(after_service_deed, service, ("slot", 1, deed)), told)
        service = after_service_deed(service, ("slot", 1, ("send", 0, 2)))
        self.assertEqual(error_of(after_service_deed, service, ("slot", 1, ("hand", 0))), ("Behind", 2, 1))
        for word in ("double", "lose"):
            self.assertIsNone(error_of(after_service_deed, service, ("slot", 1, (word, 0))))
        woken = after_service_deed(service, ("wake", 2))
        self.assertEqual(error_of(after_service_deed, woken, ("slot", 1, ("hand", 0))), ("Behind", 2, 1))
        calmed = calm_service(woken)
        self.assertEqual(all_logs(calmed), ((1,),) * 3)
        self.assertEqual(len(calmed.nets[1]), 0)
        for deed in (("propose", 2, 0), ("write", 2), ("send", 2, 0)):
            self.assertIsNone(error_of(after_service_deed, calmed, ("slot", 1, deed)))

    def test_only_inputs_of_the_book_can_come_in_sure(self):
        falls = Falls.at_most(3, 1)
        agenda = Agenda(falls, 2, "sure", [("rule", ("alike but", 0)), ("keeps", 0)])
        service = after_service_deed(begun_service(agenda), ("slot", 0, ("propose", 1, 1)))
        for house in (0, 2):
            self.assertEqual(error_of(after_service_deed, service, ("slot", 0, ("propose", house, 0))), ("NotOfBook", 0, house, 0))
            self.assertIsNone(error_of(after_service_deed, service, ("slot", 0, ("propose", house, 1))))
        self.assertEqual(error_of(after_service_deed, service, ("slot", 0, ("propose", 1, 0))), ("NoDeed", "proposed", 1))
        # A proposal that was not written is lost with its memory; one that was written stays with the disk.
        lost = after_service_course(service, [("stop", 1)])
        self.assertIsNone(error_of(after_service_deed, lost, ("slot", 0, ("propose", 0, 0))))
        kept = after_service_course(service, [("slot", 0, ("write", 1)), ("stop", 1)])
        self.assertEqual(error_of(after_service_deed, kept, ("slot", 0, ("propose", 0, 0))), ("NotOfBook", 0, 0, 0))
        self.assertEqual(error_of(after_service_deed, kept, ("slot", 0, ("propose", 1, 0))), ("NoDeed", "asleep", 1))
        letters = Agenda(falls, 2, "letters", agenda.rules)
        service = after_service_deed(begun_service(letters), ("slot", 0, ("propose", 1, 1)))
        self.assertIsNone(error_of(after_service_deed, service, ("slot", 0, ("propose", 0, 0))))

    def test_slots_that_clash_or_are_not_open(self):
        falls = Falls.at_most(3, 1)
        agenda = Agenda(falls, 2, "letters", [GREATEST, ("rule", ("all",)), GREATEST])
        clash = decide(book_of(falls, 2, ("all",)), falls, "letters")
        service = begun_service(agenda)
        for slot in (1, 2):
            self.assertEqual(error_of(after_service_deed, service, ("slot", slot, ("hand", 9))), ("NotOpen", slot))
        for house in range(3):
            service = after_service_deed(service, ("slot", 0, ("propose", house, 0)))
        service = calm_service(service)
        self.assertEqual((len(service.nets), service.clash, longest_log(service)), (1, clash, (0,)))
        self.assertEqual(error_of(after_service_deed, service, ("slot", 1, ("hand", 9))), ("Clashing", 1, clash))
        self.assertEqual(error_of(after_service_deed, service, ("slot", 2, ("hand", 9))), ("NotOpen", 2))
        self.assertEqual(error_of(after_service_deed, service, ("slot", 0, ("hand", 9))), ("NoDeed", "letter", 9))
        self.assertEqual(after_service_deed(service, ("stop", 0)).clash, clash)
        stuck = begun_service(Agenda(falls, 2, "letters", agenda.rules[1:2] * 2))
        self.assertEqual((stuck.nets, stuck.clash, all_logs(stuck), longest_log(stuck)), ((), clash, ((),) * 3, ()))
        self.assertEqual(error_of(after_service_deed, stuck, ("slot", 0, ("write", 0))), ("Clashing", 0, clash))
        self.assertEqual(error_of(after_service_deed, stuck, ("slot", 1, ("write", 0))), ("NotOpen", 1))
        self.assertEqual(after_service_deed(stuck, ("stop", 0)).awake, (1, 2))
        self.assertEqual(calm_service(stuck), stuck)

    def test_no_house(self):
        service = begun_service(self.AGENDA)
        commands = Commands([0], [("keep",), ("keep",)])
        for thing in NO_NUMBERS + (3, -10 ** 30):
            self.assertEqual(error_of(log_of_house, service, thing), ("NoHouse", thing))
            self.assertEqual(error_of(read_at, service, commands, thing), ("NoHouse", thing))


class TestCourses(unittest.TestCase):
    def test_courses_and_each_service(self):
        for drawn, agenda in lively_agendas(5, 434):
            course, shadow = drawn_service(drawn, agenda, 40, 0)
            service = begun_service(agenda)
            steps = list(each_service(service, [as_lists(deed) for deed in course]))
            last = service
            for deed, step in zip(course, steps):
                last = after_service_deed(last, deed)
                self.assertEqual(step, last)
            self.assertEqual(len(steps), 40)
            self.assertEqual(after_service_course(service, course), last)
            self.assertEqual(plain_service(last), shadow.plain())
            self.assertEqual((after_service_course(service, ()), list(each_service(service, []))), (service, []))
            at = drawn.randrange(41)
            for wrong in (("slot", 99, None), ["stop"], ("stop", 9), None):
                spoilt = course[:at] + [wrong] + course[at:]
                told = error_of(after_service_course, service, spoilt)
                self.assertEqual(told[0], "BadDeed")
                found = []
                again = error_of(lambda: [found.append(step) for step in each_service(service, spoilt)])
                self.assertEqual((again, found), (told, steps[:at]))

    def test_calm_services(self):
        seen = {"all slots": 0, "ends": 0}
        for drawn, agenda in lively_agendas(14, 435):
            course, shadow = drawn_service(drawn, agenda, drawn.choice([0, 10, 40]))
            service = behind(begun_service(agenda), course)
            calmed = calm_service(service)
            shadow.calm()
            self.assertEqual(plain_service(calmed), shadow.plain())
            logs = {log_of_house(calmed, house) for house in calmed.awake}
            self.assertLessEqual(len(logs), 1)
            again = calm_service(calmed)
            self.assertEqual([(net.disks, net.memories, net.way) for net in again.nets],
                             [(net.disks, net.memories, net.way) for net in calmed.nets])
            if service.awake:
                seen["all slots" if is_finished(calmed) else "ends"] += 1
            for log in logs:
                for slot, net in enumerate(calmed.nets):
                    self.assertEqual(slot < len(log), net.told_values[calmed.awake[0]] is not None)
        self.assertGreater(min(seen.values()), 15)

    def test_a_calm_ends_where_a_house_awake_has_told_nothing(self):
        """A house that told and fell asleep has opened slot 1; those awake do nothing there yet."""
        agenda = Agenda(Falls.at_most(3, 1), 2, "sure", [("rule", ("alike but", 0)), GREATEST])
        service = after_service_course(begun_service(agenda), [("slot", 0, ("propose", 0, 1)), ("slot", 0, ("write", 0)),
                                                               ("stop", 0)])
        self.assertEqual(all_logs(service), ((1,), (), ()))
        calmed = calm_service(service)
        self.assertEqual((len(calmed.nets), all_logs(calmed)), (2, ((1,), (), ())))
        self.assertEqual(calmed.nets[1], service.nets[1])
        self.assertGreater(calmed.nets[0].sent, 0)
        woken = calm_service(after_service_deed(calmed, ("wake", 0)))
        self.assertEqual(all_logs(woken), ((1,),) * 3)
        self.assertGreater(woken.nets[1].sent, 0)

    def test_the_longest_log_is_the_first_of_its_length(self):
        agenda = Agenda(Falls.at_most(3, 1), 2, "letters", [GREATEST, GREATEST])
        net = begun_service(agenda).nets[0]
        for told, longest in (((None, 1, 0), (1,)), ((0, 1, 1), (0,)), ((None, None, None), ())):
            other = copy.copy(net)
            other.disks = tuple(Disk((None,) * 3, (None,) * 3, None, value) for value in told)
            service = Service(agenda, (0, 1, 2), (other,), None)
            self.assertEqual(longest_log(service), longest)
            self.assertEqual(all_logs(service), tuple(() if value is None else (value,) for value in told))

    def test_nobody_awake(self):
        service = begun_service(Agenda(Falls.at_most(2, 0), 2, "sure", [GREATEST] * 2))
        for house in (0, 1):
            service = after_service_deed(service, ("stop", house))
        self.assertEqual(calm_service(service), service)

    def test_registers_of_each_house(self):
        commands = Commands((10 ** 30, -5), [("add", 0, -1), ("swap", 0, 1), ("set", 1, 7)])
        lengths = set()
        for drawn, agenda in lively_agendas(6, 436):
            course, shadow = drawn_service(drawn, agenda, 50)
            service = behind(begun_service(agenda), course)
            for house, log in enumerate(shadow.logs()):
                registers = [10 ** 30, -5]
                for value in log:
                    if value == 0:
                        registers[0] -= 1
                    elif value == 1:
                        registers.reverse()
                    else:
                        registers[1] = 7
                self.assertEqual(read_at(service, commands, house), (len(log), tuple(registers)))
                lengths.add(len(log))
        self.assertLessEqual({0, 1, 2, 3}, lengths)

    def test_every_possible_log_has_its_run(self):
        runs = 0
        for drawn, agenda in lively_agendas(5, 437, slots=(1, 2, 3)):
            found = {}
            for log in [log for log in all_logs_of(agenda) if possible_by(agenda, log, found)]:
                service = begun_service(agenda)
                for slot, entry in enumerate(entries_for(agenda, log)):
                    for house in range(agenda.n):
                        service = after_service_deed(service, ("slot", slot, ("propose", house, entry[house])))
                    service = calm_service(service)
                runs += 1
                for told in all_logs(service):
                    self.assertEqual(told[:len(log)], log)
                    for slot in range(len(log), len(told)):
                        self.assertEqual(agenda.manner, "sure")
                        values = decided_by_inputs(agenda, told[:slot], found)[1]
                        self.assertEqual(set(values.values()), {told[slot]})
        self.assertGreater(runs, 60)

    def test_sound_agendas_and_others(self):
        seen = {True: 0, False: 0}
        for drawn, agenda in lively_agendas(14, 438):
            stuck = first_stuck(agenda)
            course, shadow = drawn_service(drawn, agenda, 50, 0.1)
            if stuck is None:
                self.assertIsNone(shadow.clash)
            else:
                service = begun_service(agenda)
                for slot, entry in enumerate(entries_for(agenda, stuck.log)):
                    for house in range(agenda.n):
                        service = after_service_deed(service, ("slot", slot, ("propose", house, entry[house])))
                    service = calm_service(service)
                self.assertIsNotNone(service.clash)
                if agenda.manner == "letters":
                    self.assertEqual((service.clash, longest_log(service)), (stuck.clash, stuck.log))
            seen[is_sound(agenda)] += 1
        self.assertGreater(min(seen.values()), 8)

    def test_what_holds_at_every_moment(self):
        """Logs are beginnings of the longest, which is possible; no log gets shorter; also far beyond the family."""
        longest = set()
        for drawn, agenda in lively_agendas(10, 439):
            shadow, found = ShadowService(agenda, drawn), {}
            service, before = begun_service(agenda), ((),) * agenda.n
            for _ in range(70):
                if agenda.manner == "letters" and drawn.random() < 0.1 and shadow.wanted:
                    shadow.wanted[-1] = drawn.choice(all_inputs(agenda.n, agenda.m))
                if drawn.random() < 0.03:
                    shadow.calm()
                    service = calm_service(service)
                else:
                    deed = service_deed(drawn, shadow, 0.3)
                    shadow.do(deed)
                    service = after_service_deed(service, deed)
                logs = all_logs(service)
                last = longest_log(service)
                self.assertTrue(all(log == last[:len(log)] for log in logs))
                self.assertTrue(possible_by(agenda, last, found))
                self.assertTrue(all(len(new) >= len(old) for old, new in zip(before, logs)))
                before = logs
                longest.add(len(last))
        self.assertLessEqual({0, 1, 2, 3}, longest)

    def test_three_slots_over_three_houses_take_little_time(self):
        for manner in ("sure", "letters"):
            agenda = Agenda(Falls.at_most(3, 1), 4, manner, [GREATEST, GREATEST, ("choose", 0, (GREATEST,) * 4)])
            for drawn, _ in lively_agendas(1, 440, houses=(2,), manners=("sure",)):
                course, shadow = drawn_service(drawn, agenda, 80)
                begin = time.process_time()
                service = behind(begun_service(agenda), course)
                self.assertLess(time.process_time() - begin, 2)
                self.assertEqual(plain_service(service), shadow.plain())


if __name__ == "__main__":
    unittest.main()
