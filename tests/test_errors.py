"""firmvalues.errors: each class stands directly under FirmError and has its attributes."""

import unittest

from firmvalues import errors

LISTED = """BadInput(what, house) BadView(what, house) UnlikeViews(house) BadLeading(what) BadLot() BadFalls(what, at)
BadData(path) BadText(place) NoPart(path) BadWidth() BadManner(manner) BadRule(path, what) BadBook(what, at)
NotInBook(entry) UnlikeBooks() UnlikeHouses() BadOrder() NoWay(number) HasClash(clash) BadTable(index, what)
BadProgram(house, what) NoStep(house) BadStanding(house, what) TooMany(most) NoStanding(number) UnlikeValues()
SameHouse(house) UnlikeHouse(house) NotReached(standing) OneWay(came) SureHouse(house) NoHouse(house) NotLet(lot)
BadOrders(house) WrongClash(what, at) NotCovering() Outside(view) Twice(house) NoDeed(what, at) BadDeed(what)
Unwritten(house) BadSlotRule(slot, path, what) BadAgenda(what) BadLog(index) NoSlot(slot) NotPossible(index)
BadCommands(what, at) Clashing(slot, clash) NotOpen(slot) Behind(house, slot) NotOfBook(slot, house, value)
UnreadService() BadDesk(what) BadDeskDeed(what) NoService() NoCommands() NothingCut() NoProgram() NotStarted()
NothingDone() BadStory(index)"""


class TestErrors(unittest.TestCase):
    def listed(self):
        for part in LISTED.replace("\n", " ").split(") "):
            name, params = part.rstrip(")").split("(")
            yield getattr(errors, name), [word for word in params.split(", ") if word]

    def test_firm_error_stands_under_value_error(self):
        self.assertEqual(errors.FirmError.__bases__, (ValueError,))

    def test_each_class_stands_directly_under_firm_error(self):
        classes = [kind for kind, params in self.listed()]
        self.assertEqual(len(classes), 61)
        for kind in classes:
            self.assertEqual(kind.__bases__, (errors.FirmError,))
            self.assertEqual(kind.__module__, "firmvalues.errors")
        others = [kind for kind in vars(errors).values() if isinstance(kind, type)]
        self.assertEqual(set(others), set(classes) | {errors.FirmError})

    def test_attributes_hold_what_is_passed(self):
        for kind, params in self.listed():
            things = [["thing", at] for at in range(len(params))]
            for error in (kind(*things), kind(**dict(zip(params, things)))):
                self.assertEqual(vars(error), dict(zip(params, things)))
                for word, thing in zip(params, things):
                    self.assertIs(getattr(error, word), thing)
                self.assertNotEqual(str(error), "")

    def test_messages_do_not_depend_on_what_is_passed(self):
        for kind in (errors.NoWay, errors.BadManner, errors.NotInBook, errors.NoStanding, errors.NoPart):
            self.assertEqual(str(kind(10 ** 5000)), str(kind(None)))


if __name__ == "__main__":
    unittest.main()
