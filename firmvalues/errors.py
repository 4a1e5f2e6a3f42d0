"""All errors of the package: each stands directly under FirmError."""


class FirmError(ValueError):
    """What every error of the package is."""


class BadInput(FirmError):
    def __init__(self, what, house):
        FirmError.__init__(self, f"no input: {what}, house {house}")
        self.what = what
        self.house = house


class BadView(FirmError):
    def __init__(self, what, house):
        FirmError.__init__(self, f"no view: {what}, house {house}")
        self.what = what
        self.house = house


class UnlikeViews(FirmError):
    def __init__(self, house):
        FirmError.__init__(self, f"the views hold unlike values of house {house}")
        self.house = house


class BadLeading(FirmError):
    def __init__(self, what):
        FirmError.__init__(self, f"no leading: {what}")
        self.what = what


class BadLot(FirmError):
    def __init__(self):
        FirmError.__init__(self, "no lot of houses")


class BadFalls(FirmError):
    def __init__(self, what, at):
        FirmError.__init__(self, f"no family of lots: {what} at {at}")
        self.what = what
        self.at = at


class BadData(FirmError):
    def __init__(self, path):
        FirmError.__init__(self, f"no data at {path}")
        self.path = path


class BadText(FirmError):
    def __init__(self, place):
        FirmError.__init__(self, f"no text of data goes on at place {place}")
        self.place = place


class NoPart(FirmError):
    def __init__(self, path):
        FirmError.__init__(self, "no part at this path")
        self.path = path


class BadWidth(FirmError):
    def __init__(self):
        FirmError.__init__(self, "the width is no whole number from 20 to 200")


class BadManner(FirmError):
    def __init__(self, manner):
        FirmError.__init__(self, "no manner that is taken here")
        self.manner = manner


class BadRule(FirmError):
    def __init__(self, path, what):
        FirmError.__init__(self, f"no rule at {path}: {what}")
        self.path = path
        self.what = what


class BadBook(FirmError):
    def __init__(self, what, at):
        FirmError.__init__(self, f"no book: {what} at {at}")
        self.what = what
        self.at = at


class NotInBook(FirmError):
    def __init__(self, entry):
        FirmError.__init__(self, "the input is not in the book")
        self.entry = entry


class UnlikeBooks(FirmError):
    def __init__(self):
        FirmError.__init__(self, "the books are of unlike houses or values")


class UnlikeHouses(FirmError):
    def __init__(self):
        FirmError.__init__(self, "unlike numbers of houses")


class BadOrder(FirmError):
    def __init__(self):
        FirmError.__init__(self, "the order does not hold each value once")


class NoWay(FirmError):
    def __init__(self, number):
        FirmError.__init__(self, "no outcomes have this number")
        self.number = number


class HasClash(FirmError):
    def __init__(self, clash):
        FirmError.__init__(self, "the book has a clash")
        self.clash = clash


class BadTable(FirmError):
    def __init__(self, index, what):
        FirmError.__init__(self, f"no table: {what} at {index}")
        self.index = index
        self.what = what


class BadProgram(FirmError):
    def __init__(self, house, what):
        FirmError.__init__(self, f"no program: {what}, house {house}")
        self.house = house
        self.what = what


class NoStep(FirmError):
    def __init__(self, house):
        FirmError.__init__(self, "the house can take no step")
        self.house = house


class BadStanding(FirmError):
    def __init__(self, house, what):
        FirmError.__init__(self, f"no standing: {what}, house {house}")
        self.house = house
        self.what = what


class TooMany(FirmError):
    def __init__(self, most):
        FirmError.__init__(self, "more standings than were let")
        self.most = most


class NoStanding(FirmError):
    def __init__(self, number):
        FirmError.__init__(self, "no standing has this number")
        self.number = number


class UnlikeValues(FirmError):
    def __init__(self):
        FirmError.__init__(self, "unlike numbers of values")


class SameHouse(FirmError):
    def __init__(self, house):
        FirmError.__init__(self, f"both are house {house}")
        self.house = house


class UnlikeHouse(FirmError):
    def __init__(self, house):
        FirmError.__init__(self, f"the inputs are unlike at house {house}")
        self.house = house


class NotReached(FirmError):
    def __init__(self, standing):
        FirmError.__init__(self, "the standing is not in the graph")
        self.standing = standing


class OneWay(FirmError):
    def __init__(self, came):
        FirmError.__init__(self, f"only these values can come: {came}")
        self.came = came


class SureHouse(FirmError):
    def __init__(self, house):
        FirmError.__init__(self, f"house {house} never falls")
        self.house = house


class NoHouse(FirmError):
    def __init__(self, house):
        FirmError.__init__(self, "this is no house")
        self.house = house


class NotLet(FirmError):
    def __init__(self, lot):
        FirmError.__init__(self, "the lot is not let")
        self.lot = lot


class BadOrders(FirmError):
    def __init__(self, house):
        FirmError.__init__(self, f"no orders of hearing: house {house}")
        self.house = house


class WrongClash(FirmError):
    def __init__(self, what, at):
        FirmError.__init__(self, f"the clash has a fault: {what} at {at}")
        self.what = what
        self.at = at


class NotCovering(FirmError):
    def __init__(self):
        FirmError.__init__(self, "no two lots cover all houses")


class Outside(FirmError):
    def __init__(self, view):
        FirmError.__init__(self, "the view goes on to no input of the book")
        self.view = view


class Twice(FirmError):
    def __init__(self, house):
        FirmError.__init__(self, f"the cell of house {house} is full")
        self.house = house


class NoDeed(FirmError):
    def __init__(self, what, at):
        FirmError.__init__(self, f"no such deed now: {what} at {at}")
        self.what = what
        self.at = at


class BadDeed(FirmError):
    def __init__(self, what):
        FirmError.__init__(self, f"no deed: {what}")
        self.what = what


class Unwritten(FirmError):
    def __init__(self, house):
        FirmError.__init__(self, f"house {house} has not written its memory")
        self.house = house


class BadSlotRule(FirmError):
    def __init__(self, slot, path, what):
        FirmError.__init__(self, f"no rule of slot {slot} at {path}: {what}")
        self.slot = slot
        self.path = path
        self.what = what


class BadAgenda(FirmError):
    def __init__(self, what):
        FirmError.__init__(self, f"no agenda: {what}")
        self.what = what


class BadLog(FirmError):
    def __init__(self, index):
        FirmError.__init__(self, f"no log: item {index}")
        self.index = index


class NoSlot(FirmError):
    def __init__(self, slot):
        FirmError.__init__(self, "there is no such slot")
        self.slot = slot


class NotPossible(FirmError):
    def __init__(self, index):
        FirmError.__init__(self, f"the log is not possible: item {index}")
        self.index = index


class BadCommands(FirmError):
    def __init__(self, what, at):
        FirmError.__init__(self, f"no commands: {what} at {at}")
        self.what = what
        self.at = at


class Clashing(FirmError):
    def __init__(self, slot, clash):
        FirmError.__init__(self, f"slot {slot} has a clash")
        self.slot = slot
        self.clash = clash


class NotOpen(FirmError):
    def __init__(self, slot):
        FirmError.__init__(self, "the slot is not open")
        self.slot = slot


class Behind(FirmError):
    def __init__(self, house, slot):
        FirmError.__init__(self, f"the log of house {house} ends ahead of slot {slot}")
        self.house = house
        self.slot = slot


class NotOfBook(FirmError):
    def __init__(self, slot, house, value):
        FirmError.__init__(self, f"value {value} of house {house} leads out of the book of slot {slot}")
        self.slot = slot
        self.house = house
        self.value = value


class UnreadService(FirmError):
    def __init__(self):
        FirmError.__init__(self, "the text is not that of a service")


class BadDesk(FirmError):
    def __init__(self, what):
        FirmError.__init__(self, f"no desk: {what}")
        self.what = what


class BadDeskDeed(FirmError):
    def __init__(self, what):
        FirmError.__init__(self, f"no deed of a desk: {what}")
        self.what = what


class NoService(FirmError):
    def __init__(self):
        FirmError.__init__(self, "no service has begun")


class NoCommands(FirmError):
    def __init__(self):
        FirmError.__init__(self, "there are no commands")


class NothingCut(FirmError):
    def __init__(self):
        FirmError.__init__(self, "no service was cut")


class NoProgram(FirmError):
    def __init__(self):
        FirmError.__init__(self, "there is no program")


class NotStarted(FirmError):
    def __init__(self):
        FirmError.__init__(self, "no program has started")


class NothingDone(FirmError):
    def __init__(self):
        FirmError.__init__(self, "nothing is left to take back")


class BadStory(FirmError):
    def __init__(self, index):
        FirmError.__init__(self, f"the story fails at deed {index}")
        self.index = index
