"""The refusals, each with its values as fields.

Messages are fixed texts where a value may be a thing of any kind: such a thing might not even be shown.
"""


class NoDeed(ValueError):
    """What is no deed; part tells which part isn't as told, None where it is no tuple of seven."""

    def __init__(self, part):
        ValueError.__init__(self, f"no deed, by its part {part}")
        self.part = part


class NoText(ValueError):
    """What is no written deed; part is the number of the word that can't stand there."""

    def __init__(self, part):
        ValueError.__init__(self, f"no text of a deed, by its word {part}")
        self.part = part


class NoStates(ValueError):
    """What is no list of one to six states; number is the place of the first that is none, or None."""

    def __init__(self, number):
        ValueError.__init__(self, f"no list of one to six states, by its place {number}")
        self.number = number


class NoPaper(ValueError):
    """What is not the paper of what is made of the states."""

    def __init__(self):
        ValueError.__init__(self, "not the paper of these states")


class NoBegin(ValueError):
    """A deed of another kind where a begin is wanted."""

    def __init__(self):
        ValueError.__init__(self, "the deed is no begin")


class NoRow(ValueError):
    """What is no row; number is its place in the list, or None."""

    def __init__(self, number):
        ValueError.__init__(self, f"no row, at place {number}")
        self.number = number


class NoHouse(ValueError):
    """What is no house, or none that is there."""

    def __init__(self, house):
        ValueError.__init__(self, "no such house")
        self.house = house


class NoHouses(ValueError):
    """What is no list of one to six unlike houses; number is the place of the first that is wrong, or None."""

    def __init__(self, number):
        ValueError.__init__(self, f"no list of one to six unlike houses, by its place {number}")
        self.number = number


class Barred(ValueError):
    """A deed that would be barred, where and by which rule."""

    def __init__(self, where, rule):
        ValueError.__init__(self, f"barred: {where} {rule}")
        self.where = where
        self.rule = rule


class NoName(KeyError):
    """What is no known name."""

    def __init__(self, name):
        KeyError.__init__(self, "no such name")
        self.name = name


class NoState(LookupError):
    """A known name whose deed isn't let in, so that it has no state."""

    def __init__(self, name):
        LookupError.__init__(self, "the deed isn't let in")
        self.name = name


class NoGoing(LookupError):
    """Words that may not be let go."""

    def __init__(self, name):
        LookupError.__init__(self, "these words may not be let go")
        self.name = name


class NoHall(LookupError):
    """A house that has no hall yet."""

    def __init__(self):
        LookupError.__init__(self, "the house has no hall")


class Full(OverflowError):
    """A web that knows as many names as it may."""

    def __init__(self):
        OverflowError.__init__(self, "the web is full")


class TooMany(OverflowError):
    """More worlds than a desk keeps."""

    def __init__(self, many):
        OverflowError.__init__(self, f"too many: {many}")
        self.many = many


class Twin(RuntimeError):
    """A name by which two unlike deeds are known, or would be."""

    def __init__(self, name):
        RuntimeError.__init__(self, "two unlike deeds by one name")
        self.name = name


class Busy(RuntimeError):
    """A house that has a hall already."""

    def __init__(self):
        RuntimeError.__init__(self, "the house has a hall already")
