"""The errors of the program: one class for each kind of failure."""


class DeskError(ValueError):
    """The base class of all errors of the program."""


class UnknownName(DeskError):
    """There is no such name."""

    def __init__(self, name):
        self.name = name


class RepeatedName(DeskError):
    """A name occurs a second time where it may occur once."""

    def __init__(self, name):
        self.name = name


class UnknownValue(DeskError):
    """The name cannot take the value."""

    def __init__(self, name, value):
        self.name = name
        self.value = value


class RepeatedValue(DeskError):
    """A value occurs a second time where it may occur once."""

    def __init__(self, value):
        self.value = value


class UnknownKey(DeskError):
    """There is no rule with this key."""

    def __init__(self, key):
        self.key = key


class RepeatedKey(DeskError):
    """A rule's key occurs a second time where it may occur once."""

    def __init__(self, key):
        self.key = key


class EmptyRule(DeskError):
    """A rule has no names."""


class BadRow(DeskError):
    """A row does not have one value for each name."""

    def __init__(self, row):
        self.row = tuple(row)


class BadBounds(DeskError):
    """Two bounds contradict each other."""

    def __init__(self, low, high):
        self.low = low
        self.high = high


class BadNumber(DeskError):
    """No assignment has this number."""

    def __init__(self, number):
        self.number = number


class BadStep(DeskError):
    """The step at this position of a plan names a box that is not an earlier one."""

    def __init__(self, position):
        self.position = position


class NoMark(DeskError):
    """There is no mark or level with this number to go back to."""

    def __init__(self, number):
        self.number = number


class NotStruck(DeskError):
    """The value of the name is not struck."""

    def __init__(self, name, value):
        self.name = name
        self.value = value


class BadOrder(DeskError):
    """The names are not each name of the puzzle exactly once."""

    def __init__(self, names):
        self.names = tuple(names)


class NotBare(DeskError):
    """A box is not bare under a rule: the rule allows the found assignment."""

    def __init__(self, found):
        self.found = dict(found)


class NoClash(DeskError):
    """The puzzle does not clash under the assumptions."""


class HoldsAnswer(DeskError):
    """A box is not closed: it holds this answer."""

    def __init__(self, answer):
        self.answer = dict(answer)


class BadLine(DeskError):
    """A line of a log is not accepted, for the fault that the word tells."""

    def __init__(self, number, fault):
        self.number = number
        self.fault = fault


class UnknownLine(DeskError):
    """There is no line with this number."""

    def __init__(self, number):
        self.number = number


class BadText(DeskError):
    """The line with this number is not the text of a line."""

    def __init__(self, number):
        self.number = number


class NothingToUndo(DeskError):
    """There is no state to go back to."""


class NothingToRedo(DeskError):
    """There is no state to come back to."""


class UnknownStep(DeskError):
    """There is no step with this number to go back to."""

    def __init__(self, number):
        self.number = number


class BadDeed(DeskError):
    """The deed at this position has a first word that no deed has."""

    def __init__(self, position):
        self.position = position
