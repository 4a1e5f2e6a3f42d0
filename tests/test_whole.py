"""What the document promises over the whole program: point 0.3 in all three manners, and leading (1.4) all along."""

import random
import unittest

from firmvalues.books import Book
from firmvalues.calm import calm_end
from firmvalues.cellruns import CellRun, finished_run
from firmvalues.compiled import compiled_program
from firmvalues.deciders import told_at
from firmvalues.falls import Falls
from firmvalues.inputs import led_entry
from firmvalues.judging import judge_clash, judge_outcomes
from firmvalues.nets import Net, after_deed, after_deeds
from firmvalues.outcomes import Clash, Outcomes, decide
from firmvalues.parted import parted_course
from firmvalues.service import after_service_deed, all_logs, begun_service, calm_service
from firmvalues.slots import Agenda, first_stuck, next_values
from firmvalues.splitting import break_plan, plan_fault
from firmvalues.standings import decided_by, first_standing, standing_after, steppers_of
from firmvalues.verdicts import judge_program
from courses import Shadow, World, as_parts, drawn_course, drawn_deed, worlds_of_nets
from reckon import MANNERS, lots_of, worlds
from services import ShadowService, lively_agendas, service_deed


def decided_worlds(many, seed, manners, houses=(2, 3, 4)):
    """Books without a clash, with their outcomes, in each manner."""
    drawn = random.Random(seed)
    found = {manner: 0 for manner in manners}
    for book, falls in worlds(9, 12, seed, houses):
        for manner in manners:
            outcomes = decide(book, falls, manner, drawn.sample(range(book.m), book.m))
            if isinstance(outcomes, Outcomes) and len(book) and found[manner] < many:
                found[manner] += 1
                yield drawn, book, falls, outcomes, manner


class TestPromise(unittest.TestCase):
    def test_exactly_one_of_two_things_is_told(self):
        seen = {}
        for book, falls in worlds(10, 3, 481):
            for manner in MANNERS:
                told = decide(book, falls, manner)
                seen[manner, type(told).__name__] = seen.get((manner, type(told).__name__), 0) + 1
                if isinstance(told, Clash):
                    self.assertIsNone(judge_clash(book, falls, told))
                    for values in ((0,) * len(book), tuple(max(entry) for entry in book.inputs)):
                        self.assertIsNotNone(judge_outcomes(book, falls, manner, values))
                else:
                    self.assertIsNone(judge_outcomes(book, falls, manner, told.told))
        self.assertEqual(len(seen), 6)

    def test_tables_tell_the_value_that_is_due_behind_every_step(self):
        told = 0
        for drawn, book, falls, outcomes, manner in decided_worlds(40, 482, ("sure", "cells"), (2, 3)):
            program = compiled_program(book, falls, outcomes, manner)
            for entry in drawn.sample(book.inputs, min(5, len(book))):
                standing = first_standing(program, entry)
                for _ in range(40):
                    steppers = steppers_of(standing)
                    if not steppers:
                        break
                    standing = standing_after(program, standing, drawn.choice(steppers))
                    values = set(decided_by(standing)) - {None}
                    self.assertLessEqual(values, {outcomes.value_of(entry)})
                    told += len(values)
        self.assertGreater(told, 300)

    def test_cells_tell_the_value_that_is_due_behind_every_deed(self):
        told = 0
        for drawn, book, falls, outcomes, manner in decided_worlds(25, 483, ("sure", "cells")):
            for entry in drawn.sample(book.inputs, min(2, len(book))):
                run = CellRun(book, falls, outcomes, manner, entry)
                for _ in range(60):
                    house = drawn.randrange(book.n)
                    word = "wake" if house in run.fallen else drawn.choice(["step"] * 12 + ["fall"])
                    if word == "step" and run.next_of(house) == "done":
                        continue
                    run.do_deed((word, house))
                    values = set(run.decisions) - {None}
                    self.assertLessEqual(values, {outcomes.value_of(entry)})
                    told += len(values)
                alone = finished_run(run)
                self.assertLessEqual(set(alone.decisions) - {None}, {outcomes.value_of(entry)})
        self.assertGreater(told, 300)

    def test_nets_tell_the_value_that_is_due_behind_every_deed(self):
        told, ended = 0, 0
        for drawn, book, falls, outcomes, manner in decided_worlds(25, 484, ("sure", "letters")):
            world = World(book, falls, outcomes, manner)
            for entry in drawn.sample(book.inputs, min(2, len(book))):
                shadow, net = Shadow(world), world.net()
                for _ in range(60):
                    deed = drawn_deed(drawn, shadow, entry, 0.1)
                    shadow.do(deed)
                    net = after_deed(net, deed)
                    values = set(net.told_values) - {None}
                    self.assertLessEqual(values, {outcomes.value_of(entry)})
                    told += len(values)
                for house in range(book.n):
                    if house in net.awake_houses and net.memories[house].view[house] is None:
                        net = after_deed(net, ("propose", house, entry[house]))
                if falls.is_quorum(net.awake_houses):
                    calm = calm_end(net)
                    self.assertEqual({calm.net.told_values[house] for house in net.awake_houses}, {outcomes.value_of(entry)})
                    ended += 1
        self.assertGreater(told, 300)
        self.assertGreater(ended, 20)

    def test_whichever_let_lot_falls_the_rest_tell(self):
        for drawn, book, falls, outcomes, manner in decided_worlds(12, 485, ("sure", "letters"), (2, 3)):
            entry = drawn.choice(book.inputs)
            for lot in falls.each_lot():
                awake = [house for house in range(book.n) if house not in lot]
                course = [("stop", house) for house in lot] + [("propose", house, entry[house]) for house in awake]
                calm = calm_end(after_deeds(Net(book, falls, outcomes, manner), course))
                self.assertEqual({calm.net.told_values[house] for house in awake}, {outcomes.value_of(entry)})

    def test_if_inputs_are_sure_each_house_tells_at_the_earliest_view(self):
        for drawn, book, falls, outcomes, manner in decided_worlds(15, 486, ("sure",), (2, 3)):
            world = World(book, falls, outcomes, manner)
            shadow, net, entry = Shadow(world), world.net(), drawn.choice(book.inputs)
            for _ in range(50):
                deed = drawn_deed(drawn, shadow, entry, 0.1)
                shadow.do(deed)
                net = after_deed(net, deed)
                if deed[0] == "write":
                    disk = net.disks[deed[1]]
                    if told_at(book, falls, outcomes, "sure", disk.view) is not None:
                        self.assertEqual(disk.told, outcomes.value_of(entry))

    def test_a_clash_in_letters_breaks_plans_and_nets(self):
        broken = 0
        for book, falls in worlds(8, 60, 487, (2, 3)):
            clash = decide(book, falls, "letters")
            if not isinstance(clash, Clash):
                continue
            fault = break_plan({}, book, falls, clash)
            self.assertIsNone(plan_fault({}, book, falls, "letters", fault))
            outcomes = decide(book, falls, "cells")
            if falls.covering is None or not isinstance(outcomes, Outcomes):
                continue
            unlike = [(one, other) for one in book.inputs for other in book.inputs
                      if outcomes.value_of(one) != outcomes.value_of(other)]
            for one, other in unlike[:4]:
                net = after_deeds(Net(book, falls, outcomes, "letters"), parted_course(falls, one, other))
                self.assertLessEqual({outcomes.value_of(one), outcomes.value_of(other)}, set(net.told_values))
                broken += 1
        self.assertGreater(broken, 3)

    def test_judged_right_in_cells_means_right_in_nets_where_lots_do_not_cover(self):
        """Without two lots that cover all houses, outcomes for cells are outcomes for letters."""
        for drawn, book, falls, outcomes, manner in decided_worlds(15, 488, ("cells",), (2, 3)):
            if falls.covering is None:
                self.assertIsNone(judge_outcomes(book, falls, "letters", outcomes.told))
                self.assertIsNone(judge_program(compiled_program(book, falls, outcomes, "cells"), book, falls, "cells"))


class TestLeading(unittest.TestCase):
    """Renamed houses and values lead all of it along: families, books, outcomes, nets and services."""

    def leading(self, drawn, n, m):
        return drawn.sample(range(n), n), drawn.sample(range(m), m)

    def led_deed(self, deed, order, names):
        if deed[0] == "propose":
            return deed[0], order[deed[1]], names[deed[2]]
        if deed[0] in ("hand", "double", "lose"):
            return deed
        return (deed[0], *[order[house] for house in deed[1:]])

    def led_row(self, row, order, led):
        """A row with one thing for each house, each thing led too."""
        found = [None] * len(row)
        for house, thing in enumerate(row):
            found[order[house]] = None if thing is None else led(thing)
        return tuple(found)

    def led_disk(self, disk, order, names):
        view, heard, stable, told = as_parts(disk)

        def led(thing):
            return led_entry(thing, order, names)

        return led(view), self.led_row(heard, order, led), stable and led(stable), None if told is None else names[told]

    def test_families_and_books_and_outcomes(self):
        drawn = random.Random(491)
        for book, falls in worlds(9, 2, 491):
            order, names = self.leading(drawn, book.n, book.m)
            led_book = Book(book.n, book.m, [led_entry(entry, order, names) for entry in book.inputs])
            led_falls = falls.led(order)
            self.assertEqual([led_falls.lets([order[house] for house in lot]) for lot in lots_of(book.n)],
                             [falls.lets(lot) for lot in lots_of(book.n)])
            for manner in MANNERS:
                one = decide(book, falls, manner, list(range(book.m)))
                other = decide(led_book, led_falls, manner, names)
                self.assertIs(type(one), type(other))
                if isinstance(one, Outcomes):
                    self.assertEqual([other.value_of(led_entry(entry, order, names)) for entry in book.inputs],
                                     [names[value] for value in one.told])

    def test_nets(self):
        for drawn, world in worlds_of_nets(6, 492, houses=(2, 3, 4)):
            order, names = self.leading(drawn, world.n, world.book.m)
            course, _ = drawn_course(drawn, world, 60)
            led_told = {led_entry(entry, order, names): names[value] for entry, value in world.told.items()}
            inputs = sorted(led_told)
            led = Net(Book(world.n, world.book.m, [led_entry(entry, order, names) for entry in world.book.inputs]),
                      world.falls.led(order), Outcomes(inputs, [led_told[entry] for entry in inputs]), world.manner)
            net = world.net()
            for deed in course:
                net, led = after_deed(net, deed), after_deed(led, self.led_deed(deed, order, names))
                for rows in ((net.disks, led.disks), (net.memories, led.memories)):
                    self.assertEqual(tuple(map(lambda disk: disk and as_parts(disk), rows[1])),
                                     self.led_row(rows[0], order, lambda disk: self.led_disk(disk, order, names)))
                self.assertEqual([(letter.sender, letter.receiver, letter.view, letter.told) for letter in led],
                                 [(order[letter.sender], order[letter.receiver], led_entry(letter.view, order, names),
                                   None if letter.told is None else names[letter.told]) for letter in net])
                self.assertEqual((led.sent, led.told_values), (net.sent, led_entry(net.told_values, order, names)))

    def led_rule(self, rule, order, names):
        """A slot rule whose plain rules are led: an input, or a rule that names no house and no value."""
        if rule[0] == "rule":
            inner = rule[1]
            return "rule", ("is", led_entry(inner[1], order, names)) if inner[0] == "is" else inner
        subrules = [None] * len(names)
        for value, subrule in enumerate(rule[2]):
            subrules[names[value]] = self.led_rule(subrule, order, names)
        return "choose", rule[1], tuple(subrules)

    def test_services(self):
        """Rules in which each group has one value that fits, so that no order of values is asked for."""
        drawn, several = random.Random(493), 0
        for _ in range(40):
            n, m = drawn.choice([(2, 2), (3, 2), (3, 3)])
            alike = [("rule", ("alike but", 0)), ("rule", ("is", (drawn.randrange(m),) * n))]
            rules = [alike[0]] + [("choose", slot, tuple(drawn.choice(alike) for _ in range(m))) for slot in (0, 1)]
            falls = Falls(n, drawn.choice([[[h] for h in range(n - 1)], [[0]], [list(range(1, n))], []]))
            manner = drawn.choice(["sure", "letters"])
            agenda = Agenda(falls, m, manner, rules)
            order, names = self.leading(drawn, n, m)
            led_agenda = Agenda(falls.led(order), m, manner, [self.led_rule(rule, order, names) for rule in rules])
            self.assertEqual(first_stuck(agenda) is None, first_stuck(led_agenda) is None)
            shadow, service, led = ShadowService(agenda, drawn), begun_service(agenda), begun_service(led_agenda)
            if any(len(world[1].lots) and world[1].covering and manner == "letters" for world in shadow.books()):
                continue
            for _ in range(50):
                if drawn.random() < 0.05:
                    shadow.calm()
                    service, led = calm_service(service), calm_service(led)
                else:
                    deed = service_deed(drawn, shadow)
                    shadow.do(deed)
                    service = after_service_deed(service, deed)
                    if deed[0] == "slot":
                        led = after_service_deed(led, ("slot", deed[1], self.led_deed(deed[2], order, names)))
                    else:
                        led = after_service_deed(led, (deed[0], order[deed[1]]))
                logs = self.led_row(all_logs(service), order, lambda log: tuple(names[value] for value in log))
                self.assertEqual(all_logs(led), logs)
                self.assertEqual(led.awake, tuple(sorted(order[house] for house in service.awake)))
            several += len(service.nets) > 1
            for log in all_logs(service):
                led_log = tuple(names[value] for value in log)
                self.assertEqual(set(next_values(led_agenda, led_log)), {names[value] for value in next_values(agenda, log)})
        self.assertGreater(several, 8)

    def test_services_led_by_houses_alone(self):
        """With the values as they are, any agenda of rules that name no house."""
        for drawn, agenda in lively_agendas(5, 494, houses=(2, 3)):
            order, names = drawn.sample(range(agenda.n), agenda.n), list(range(agenda.m))
            if any(word in str(agenda.rules) for word in ("'at'", "'is'")):
                continue
            led_agenda = Agenda(agenda.falls.led(order), agenda.m, agenda.manner, agenda.rules)
            shadow, service, led = ShadowService(agenda, drawn), begun_service(agenda), begun_service(led_agenda)
            for _ in range(40):
                deed = service_deed(drawn, shadow)
                shadow.do(deed)
                service = after_service_deed(service, deed)
                inner = ("slot", deed[1], self.led_deed(deed[2], order, names)) if deed[0] == "slot" else (deed[0], order[deed[1]])
                led = after_service_deed(led, inner)
                self.assertEqual(all_logs(led), self.led_row(all_logs(service), order, tuple))
                self.assertEqual(led.clash is None, service.clash is None)


if __name__ == "__main__":
    unittest.main()
