"""The refusals that the document tells, one class for each."""


class AsIfError(ValueError):
    """What all refusals have in common."""


class BadAddress(AsIfError):
    """An address is wanted, and this is none."""


class BadQuestion(AsIfError):
    """A question is wanted, and this is none."""


class NoText(AsIfError):
    """No text that is so written; `row` is the first row that is not."""

    def __init__(self, row):
        super().__init__("no such text")
        self.row = row


class BadCount(AsIfError):
    """A number within told limits is wanted, and this is none."""


class BadRow(AsIfError):
    """A row of numbers that tells nothing; `at` is the place where that shows."""

    def __init__(self, at):
        super().__init__("no such row")
        self.at = at


class NoEntry(AsIfError):
    """There is no entry of that number."""


class NotBeside(AsIfError):
    """The end of the one part is not the beginning of the other."""


class NoFile(AsIfError):
    """There is no such file, or no such number of writes."""


class BadEntry(AsIfError):
    """An entry is wanted; `at` is the place of the first thing that is none."""

    def __init__(self, at):
        super().__init__("no entry")
        self.at = at


class NoPart(AsIfError):
    """There are no two parts at that place."""


class NoMoment(AsIfError):
    """There is no such moment, or none any more."""


class NoFall(AsIfError):
    """A seat cannot fall so."""


class NoSeat(AsIfError):
    """There is no such seat, or it is so already."""


class NotSure(AsIfError):
    """No seat can tell what is surely held; `shard` is where, None in a shard alone."""

    def __init__(self, shard):
        super().__init__("not sure")
        self.shard = shard


class NotKnown(AsIfError):
    """The address is not known."""


class NoShard(AsIfError):
    """There is no such shard."""


class NoPrefix(AsIfError):
    """This is no prefix, or none that can be struck or freed."""


class NoLog(AsIfError):
    """A log through which no house can be led; `at` is the first row of that kind."""

    def __init__(self, at):
        super().__init__("no such log")
        self.at = at
