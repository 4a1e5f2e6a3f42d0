"""firmvalues.desk: points 16.1 to 16.3, every deed, right and with one or two places spoilt, by a second walk."""

import copy
import itertools
import random
import unittest

from firmvalues.books import book_of
from firmvalues.breaking import Broken
from firmvalues.desk import Desk, Page, Trial, after_desk_deed, begun_page
from firmvalues.falls import Falls
from firmvalues.inputs import as_tuples
from firmvalues.outcomes import decide
from firmvalues.verdicts import fault_error, judge_program
from desks import LENGTHS, PARTS, ShadowDesk, arguments_of, follow_service, page_parts, right_deed, tables_of
from programs import KINDS, drawn_program, right_programs
from reckon import NO_SEQUENCES, error_of, rows
from test_service import as_lists
from test_slots import spoilt_at_one_place

NO_NUMBERS = (True, False, None, -1, "0", 0.5, (0,), [0], {}, 99)
WHOLE = ("rule", ("all",))


def drawn_story(drawn, n, m, many, spoil=0.2):
    """Yields (deed, error, answer, shadow) of deeds right and spoilt, one behind the other."""
    shadow, wanted = ShadowDesk(n, m), None
    for _ in range(many):
        deed = right_deed(drawn, shadow, wanted)
        if drawn.random() < spoil:
            for _ in range(drawn.choice([1, 1, 2])):
                deed = spoilt_at_one_place(drawn, as_tuples(deed)) if drawn.random() < 0.9 else drawn.choice(NO_NUMBERS)
        before = dict(shadow.page)
        error, answer = shadow.do(deed)
        if error is None:
            wanted = follow_service(drawn, shadow, wanted, deed, before)
        yield deed, error, answer, shadow


class TestPages(unittest.TestCase):
    def test_begun_pages(self):
        for n, m in ((2, 1), (2, 4), (3, 2), (4, 4), (5, 3), (5, 1)):
            page = begun_page(n, m)
            self.assertEqual((page.n, page.m), (n, m))
            self.assertEqual(page_parts(page), ShadowDesk(n, m).page)
            self.assertEqual(page, Page(n, m, Falls(n, ()), "letters", [["rule", ["all"]]], None, None, None, None, None))

    def test_what_is_no_desk(self):
        for call in (begun_page, Desk):
            for houses in NO_NUMBERS + (0, 1, 6):
                for values in (2, 0, None):
                    self.assertEqual(error_of(call, houses, values), ("BadDesk", "houses"))
            for values in NO_NUMBERS + (0, 5):
                for houses in (2, 5):
                    self.assertEqual(error_of(call, houses, values), ("BadDesk", "values"))
            self.assertEqual(error_of(call, 5, 4), ("BadDesk", "many"))
            for houses, values in ((4, 4), (5, 3), (2, 1)):
                self.assertIsNone(error_of(call, houses, values))

    def test_pages_are_equal_by_all_attributes(self):
        parts = [2, 2, Falls(2, []), "letters", (WHOLE,), None, None, None, None, None]
        page = Page(*parts)
        self.assertEqual(page, Page(*parts))
        for at, thing in enumerate((3, 3, Falls(2, [(0,)]), "sure", (WHOLE, WHOLE), 1, 2, (), (), "()")):
            self.assertNotEqual(page, Page(*parts[:at], thing, *parts[at + 1:]))
        self.assertNotEqual(page, tuple(parts))
        page = Page(2, 2, None, "sure", [["rule", ["all"]]], None, None, [1], [["write", 0, None]], None)
        self.assertEqual((page.rules, page.program, page.standing), ((WHOLE,), (1,), (("write", 0, None),)))

    def test_every_deed_right_and_spoilt_by_a_second_walk(self):
        drawn, seen, errors = random.Random(461), {}, {}
        for n, m, many in ((2, 2, 3600), (2, 3, 2100), (3, 2, 2400), (2, 1, 600)):
            for _ in range(3):
                page = begun_page(n, m)
                for deed, error, answer, shadow in drawn_story(drawn, n, m, many // 3):
                    kept = page_parts(page)
                    if error is None:
                        page, told = after_desk_deed(page, as_lists(deed) if drawn.random() < 0.5 else deed)
                        self.assertEqual(told, answer, deed)
                        seen[deed[0]] = seen.get(deed[0], 0) + 1
                    else:
                        self.assertEqual(error_of(after_desk_deed, page, deed), error, deed)
                        errors[error[0]] = errors.get(error[0], 0) + 1
                        self.assertEqual(page_parts(page), kept)
                    self.assertEqual(page_parts(page), shadow.page, deed)
                    self.assertEqual((page.n, page.m), (n, m))
        self.assertEqual(set(seen), set(LENGTHS))
        self.assertGreater(min(seen.values()), 5, seen)
        for name in ("BadDeskDeed", "BadFalls", "BadManner", "BadAgenda", "BadSlotRule", "BadCommands", "NoService",
                     "BadDeed", "NoDeed", "NoCommands", "NoHouse", "NothingCut", "BadTable", "NoProgram", "BadInput",
                     "NotStarted", "NoStep", "NotOfBook", "NotOpen"):
            self.assertIn(name, errors)

    def test_no_deed_at_all(self):
        page = begun_page(2, 2)
        for thing in NO_SEQUENCES + ((), [], ("back",), ("Falls", ()), ("", 0), (None,), (0, 0), (("cut",),), ({},), ("act",)):
            self.assertEqual(error_of(after_desk_deed, page, thing), ("BadDeskDeed", "word"))
        for word, length in LENGTHS.items():
            for many in range(1, 5):
                if many != length:
                    told = error_of(after_desk_deed, page, [word] + [None] * (many - 1))
                    self.assertEqual(told, ("BadDeskDeed", "length"))


class TestDeeds(unittest.TestCase):
    def page(self, *deeds, n=2, m=2):
        page = begun_page(n, m)
        for deed in deeds:
            page, self.answer = after_desk_deed(page, deed)
        return page

    def refused(self, page, deed):
        return error_of(after_desk_deed, page, deed)

    def test_what_comes_first(self):
        """Each error of a deed in its order, when all behind it would apply too."""
        blank = self.page()
        begun = self.page(("begin",))
        ordered = self.page(("begin",), ("commands", [0], [("keep",)]))
        ready = self.page(("begin",), ("commands", [0], [("keep",)] * 2))
        cells = self.page(("manner", "cells"))
        program = tables_of(drawn_program(random.Random(1), 2, 2, KINDS[0]))
        loaded = self.page(("program", program))
        started = self.page(("program", program), ("entry", (0, 1)))
        for page, deed, told in (
                (blank, ("falls", None), ("BadFalls", "lots", 0)), (blank, ("falls", [(0, 1)]), ("BadFalls", "all", 0)),
                (blank, ("falls", [(), (2,)]), ("BadFalls", "lot", 1)), (blank, ("falls", [(True,)]), ("BadFalls", "lot", 0)),
                (blank, ("manner", True), ("BadManner", True)), (blank, ("manner", ["sure"]), ("BadManner", ["sure"])),
                (blank, ("slots", ()), ("BadAgenda", "rules")), (blank, ("slots", [WHOLE] * 7), ("BadAgenda", "rules")),
                (blank, ("slots", [WHOLE, ("keeps", 1), ()]), ("BadSlotRule", 1, (), "slot")),
                (blank, ("commands", [], None), ("BadCommands", "start", 0)),
                (blank, ("commands", [0, True], None), ("BadCommands", "number", 1)),
                (blank, ("commands", [0], ["keep"]), ("BadCommands", "command", 0)),
                (cells, ("begin",), ("BadAgenda", "manner")), (blank, ("service", None), ("NoService",)),
                (blank, ("calm",), ("NoService",)), (blank, ("cut",), ("NoService",)), (blank, ("resume",), ("NothingCut",)),
                (begun, ("service", None), ("BadDeed", "word")), (begun, ("service", ("slot", 1, ())), ("BadDeed", "slot")),
                (begun, ("service", ("slot", 0, ("stop", 0))), ("BadDeed", "inner")),
                (begun, ("service", ("slot", 0, ("hand", 3))), ("NoDeed", "letter", 3)),
                (begun, ("service", ("wake", 1)), ("NoDeed", "awake", 1)),
                (blank, ("read", 9), ("NoService",)), (begun, ("read", 9), ("NoCommands",)),
                (ordered, ("read", 9), ("BadCommands", "rows", 0)), (ready, ("read", 2), ("NoHouse", 2)),
                (ready, ("read", True), ("NoHouse", True)), (blank, ("program", None), ("BadDeskDeed", "tables")),
                (blank, ("program", [(1, [0, 0], [])]), ("BadDeskDeed", "tables")),
                (blank, ("program", [None, (0, 0, 0)]), ("BadDeskDeed", "tables")),
                (blank, ("program", [(0, [0, 0], []), (1, [0, 0])]), ("BadDeskDeed", "tables")),
                (blank, ("program", [(0, [], 0), (1, [5], [])]), ("BadTable", 0, "states")),
                (blank, ("program", [(1, [0], []), (1, [0, 1], [])]), ("BadTable", 1, "start")),
                (blank, ("program", [(1, [0], []), (1, [0, 0], [])]), ("UnlikeValues",)),
                (blank, ("program", [(1, [0, 0], []), (1, [0, 0, 0], [])]), ("UnlikeValues",)),
                (blank, ("program", [(1, [0], []), (1, [0], [])]), ("UnlikeValues",)),
                (blank, ("program", [(1, [0, 0], []), (1, [0, 0], [(0, (None,), ("done", 2))])]), ("BadTable", 0, "move")),
                (blank, ("entry", None), ("NoProgram",)), (loaded, ("entry", (0,)), ("BadInput", "length", 0)),
                (loaded, ("entry", (0, True)), ("BadInput", "value", 1)), (blank, ("step", 9), ("NotStarted",)),
                (loaded, ("step", 9), ("NotStarted",)), (started, ("step", 2), ("NoStep", 2)),
                (started, ("step", True), ("NoStep", True)), (blank, ("judge",), ("NoProgram",)),
                (loaded, ("judge",), ("BadManner", "letters")), (blank, ("break",), ("NoProgram",)),
                (loaded, ("break",), ("BadManner", "letters"))):
            self.assertEqual(self.refused(page, deed), told, deed)

    def test_what_a_deed_makes_none(self):
        begun = (("manner", "sure"), ("begin",))
        for deed in (("falls", [(0,)]), ("manner", "letters"), ("slots", [WHOLE])):
            for end in ((), (("cut",),)):
                page = self.page(*begun, *end, deed)
                self.assertEqual((page.service, page.text), (None, None))
        page = self.page(*begun, ("cut",))
        self.assertEqual((self.answer, page.service), (("cut", 1), None))
        self.assertIsInstance(page.text, str)
        self.assertIsNone(self.page(*begun, ("cut",), ("begin",)).text)
        resumed = self.page(*begun, ("cut",), ("resume",))
        self.assertEqual((resumed, self.answer), (self.page(*begun), ("logs", ((), ()))))
        self.assertEqual(self.refused(resumed, ("resume",)), ("NothingCut",))
        program = tables_of(drawn_program(random.Random(2), 2, 2, KINDS[0]))
        page = self.page(("program", program), ("entry", (0, 0)), ("program", program))
        self.assertIsNone(page.standing)
        self.assertEqual(self.answer, ("program", tuple(states for states, _, _ in program)))
        page = self.page(*begun, ("commands", [5], [("keep",)] * 2), ("program", program))
        self.assertIsNotNone(page.service)

    def test_a_service_on_the_desk(self):
        page = self.page(("falls", [[0], [1], [2]]), ("slots", [("rule", ("firm greatest",)), ("keeps", 0)]),
                         ("commands", [7], [("add", 0, -10 ** 30), ("add", 0, 1)]), ("begin",), n=3)
        self.assertEqual(self.answer, ("begin", 1))
        for house, value in enumerate((0, 1, 1)):
            page, answer = after_desk_deed(page, ["service", ["slot", 0, ["propose", house, value]]])
            self.assertEqual(answer, ("logs", ((), (), ())))
        page, answer = after_desk_deed(page, ("calm",))
        self.assertEqual(answer, ("logs", ((1,), (1,), (1,))))
        self.assertEqual(after_desk_deed(page, ("read", 2)), (page, ("read", 1, (8,))))
        cut, answer = after_desk_deed(page, ("cut",))
        self.assertEqual(answer, ("cut", 2))
        self.assertEqual(after_desk_deed(cut, ("resume",)), (page, ("logs", ((1,), (1,), (1,)))))

    def test_programs_judged_and_broken(self):
        kinds = {}
        for drawn, book, falls, program, manner in self.judged_programs():
            deeds = [("falls", falls.lots), ("manner", manner), ("slots", [("rule", rule_of(book))]), ("program", tables_of(program))]
            page = self.page(*deeds, n=book.n, m=book.m)
            self.assertEqual(page.program, program)
            again, (word, fault) = after_desk_deed(page, ("judge",))
            self.assertEqual((again, word), (page, "judge"))
            self.assertEqual(fault is None, judge_program(program, book, falls, manner) is None)
            if fault is not None:
                self.assertIsNone(fault_error(program, book, falls, manner, fault))
            again, (word, told) = after_desk_deed(page, ("break",))
            self.assertEqual(again, page)
            decided = decide(book, falls, manner)
            if word == "outcomes":
                self.assertEqual(told, decided.told)
            else:
                self.assertEqual(word, "broken")
                self.assertIsInstance(told, Broken)
                self.assertIsNone(fault_error(program, book, falls, manner, told.fault))
            kinds[word, fault is None] = kinds.get((word, fault is None), 0) + 1
        self.assertNotIn(("broken", True), kinds)
        self.assertGreater(min(kinds["broken", False], kinds["outcomes", True], kinds["outcomes", False]), 3)

    def judged_programs(self):
        drawn = random.Random(462)
        for kind in KINDS:
            for manner in ("sure", "cells"):
                falls = Falls.at_most(2, 1)
                book = book_of(falls, 2, drawn.choice([("all",), ("is", (0, 1)), ("alike but", 0)]))
                yield drawn, book, falls, drawn_program(drawn, 2, 2, kind), manner
        for n in (2, 2, 3, 3):
            falls = Falls.at_most(n, 1)
            for program, book, outcomes, manner in itertools.islice(right_programs(drawn, n, 2, falls), 2):
                yield drawn, book, falls, program, manner

    def test_too_many_standings(self):
        page = self.page(("falls", [[0], [1], [2], [3]]), ("manner", "sure"), n=4, m=2)
        moving = [(state, others, (state + 1) % 7) for state in range(7) for others in rows((None, *range(7)), 3)]
        page, _ = after_desk_deed(page, ("program", [(7, [0, 2], moving)] * 4))
        for deed in (("judge",), ("break",)):
            self.assertEqual(self.refused(page, deed), ("TooMany", 20000))


def rule_of(book):
    """A rule whose book this is."""
    return ("or", *[("is", entry) for entry in book.inputs])


class TestDesks(unittest.TestCase):
    def test_acts_and_backs(self):
        drawn = random.Random(463)
        for n, m in ((2, 2), (3, 2), (2, 3)):
            for _ in range(4):
                desk = Desk(n, m)
                self.assertEqual((desk.page, desk.done), (begun_page(n, m), ()))
                pages, done = [desk.page], []
                for deed, error, answer, shadow in self.walk(drawn, n, m, 60, pages, done):
                    kept = desk.page, desk.done
                    if error is not None:
                        self.assertEqual(error_of(desk.act, deed), error)
                        self.assertIs(desk.page, kept[0])
                        self.assertIs(desk.done, kept[1])
                    else:
                        thing = as_lists(deed)
                        self.assertEqual(desk.act(thing), answer)
                        if isinstance(thing, list) and thing:
                            thing.append("later")
                    self.assertEqual(page_parts(desk.page), page_parts(pages[-1]))
                    self.assertEqual(desk.done, tuple(done))

    def walk(self, drawn, n, m, many, pages, done):
        """Deeds with backs among them; `pages` and `done` are kept as a list of pages and of deeds would be."""
        story = drawn_story(drawn, n, m, 10 ** 6, 0.1)
        for _ in range(many):
            if drawn.random() < 0.15:
                if done:
                    pages.pop()
                    yield ("back",), None, ("back", done.pop()), None
                else:
                    yield ("back",), ("NothingDone",), None, None
                continue
            deed, _, _, _ = next(story)
            error = error_of(after_desk_deed, pages[-1], deed)
            answer = None
            if error is None:
                page, answer = after_desk_deed(pages[-1], deed)
                pages.append(page)
                done.append(as_tuples(deed))
            yield deed, error, answer, None

    def test_backs_that_are_refused(self):
        desk = Desk(2, 2)
        for deed in (("back", 0), ["back", None], ("back", "back", "back")):
            self.assertEqual(error_of(desk.act, deed), ("BadDeskDeed", "length"))
        self.assertEqual(error_of(desk.act, ("back",)), ("NothingDone",))
        self.assertEqual(error_of(desk.act, ["back"]), ("NothingDone",))
        desk.act(["manner", "sure"])
        self.assertEqual(error_of(desk.act, ("back", 0)), ("BadDeskDeed", "length"))
        self.assertEqual(desk.act(["back"]), ("back", ("manner", "sure")))
        self.assertEqual((desk.page, desk.done), (begun_page(2, 2), ()))
        self.assertEqual(error_of(desk.act, ("back",)), ("NothingDone",))
        for thing in NO_SEQUENCES + ((), [], ("Back",)):
            self.assertEqual(error_of(desk.act, thing), ("BadDeskDeed", "word"))

    def test_what_was_refused_is_taken_when_it_is_put_right(self):
        desk = Desk(2, 2)
        for wrong, first, right in ((("resume",), [("begin",), ("cut",)], ("resume",)),
                                    (("read", 0), [("commands", [0], [["keep"], ["keep"]])], ("read", 0)),
                                    (("service", ["wake", 1]), [("service", ["stop", 1])], ("service", ["wake", 1])),
                                    (("step", 0), [("program", [(1, [0, 0], [])] * 2), ("entry", [0, 1])], ("step", 0)),
                                    (("judge",), [("manner", "cells")], ("judge",))):
            self.assertIsNotNone(error_of(desk.act, wrong))
            for deed in first:
                desk.act(deed)
            self.assertIsNone(error_of(desk.act, right), right)

    def test_done_holds_tuples_alone(self):
        desk = Desk(2, 2)
        deed = ["slots", [["rule", ["at", 0, [1, 0]]]]]
        desk.act(deed)
        deed[1][0][1].append(5)
        self.assertEqual(desk.done, (("slots", (("rule", ("at", 0, (1, 0))),)),))
        self.assertEqual(desk.page.rules, (("rule", ("at", 0, (0, 1))),))

    def test_trials_leave_the_desk_as_it_was(self):
        drawn, seen = random.Random(464), {None: 0, "refused": 0}
        for n, m in ((2, 2), (3, 2)):
            for _ in range(10):
                desk = Desk(n, m)
                deeds = [deed for deed, error, _, _ in drawn_story(drawn, n, m, 40, 0) if error is None]
                for deed in deeds[:15]:
                    desk.act(deed)
                course = deeds[15:]
                for _ in range(drawn.choice([0, 2, 6])):
                    course.insert(drawn.randrange(len(course) + 1), ["back"])
                page, done, parts = desk.page, desk.done, copy.copy(page_parts(desk.page))
                trial = desk.trial([as_lists(deed) for deed in course])
                self.assertIs(desk.page, page)
                self.assertIs(desk.done, done)
                self.assertEqual(page_parts(desk.page), parts)
                answers, refused = [], None
                for index, deed in enumerate(course):
                    if error_of(Desk.act, twin_of(desk, course[:index]), deed):
                        refused = index
                        break
                    answers.append(twin_of(desk, course[:index]).act(deed))
                self.assertEqual(trial, Trial(answers, refused))
                self.assertEqual((trial.answers, trial.refused), (tuple(answers), refused))
                seen[None if refused is None else "refused"] += 1
        self.assertGreater(min(seen.values()), 1)

    def test_a_trial_may_take_back_a_deed_of_the_desk(self):
        desk = Desk(2, 2)
        desk.act(("manner", "sure"))
        trial = desk.trial([("back",), ("back",), ("begin",)])
        self.assertEqual(trial, Trial((("back", ("manner", "sure")),), 1))
        self.assertEqual((desk.page.manner, desk.done), ("sure", (("manner", "sure"),)))
        self.assertEqual(desk.trial([]), Trial((), None))
        self.assertEqual(desk.trial([("back",), ["begin"]]), Trial([["back", ["manner", "sure"]], ["begin", 1]], None))
        self.assertEqual(desk.trial(["begin"]), Trial((), 0))
        self.assertEqual(desk.trial([None]), Trial((), 0))

    def test_desks_of_all_sizes(self):
        for n, m in ((2, 4), (3, 4), (4, 4), (5, 1), (5, 3)):
            desk = Desk(n, m)
            course = [("falls", [[0]]), ("begin",), ("service", ("slot", 0, ("propose", n - 1, m - 1))), ("calm",), ("back",)]
            trial = desk.trial(course)
            self.assertEqual((len(trial.answers), trial.refused), (5, None))
            self.assertEqual([desk.act(deed) for deed in course], list(trial.answers))
            self.assertEqual(desk.page.service.nets[0].memories[n - 1].view[n - 1], m - 1)

    def test_trials_are_equal_by_both_attributes(self):
        trial = Trial([("begin", 1)], 1)
        for other in (Trial([("begin", 2)], 1), Trial([("begin", 1)], None), ((("begin", 1),), 1), None):
            self.assertNotEqual(trial, other)

    def test_two_desks_go_on_apart(self):
        one, other = Desk(2, 2), Desk(2, 2)
        one.act(("begin",))
        self.assertEqual((other.page, other.done), (begun_page(2, 2), ()))
        self.assertEqual(sorted(PARTS), sorted(page_parts(one.page)))


def twin_of(desk, course):
    """Another desk behind all deeds of this one and then a course."""
    twin = Desk(desk.page.n, desk.page.m)
    for deed in (*desk.done, *course):
        twin.act(deed)
    return twin


if __name__ == "__main__":
    unittest.main()
