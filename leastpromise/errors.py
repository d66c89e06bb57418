"""The errors that this package raises."""


class PromiseError(Exception):
    """The base of all errors of this package."""


class InvalidText(PromiseError):
    """A text can't be read."""

    def __init__(self, at):
        self.at = at


class InvalidTable(PromiseError):
    """A table is wrong."""

    def __init__(self, at):
        self.at = at


class InvalidSheet(PromiseError):
    """A sheet is wrong."""

    def __init__(self, at):
        self.at = at


class InvalidLines(PromiseError):
    """Lines of a sheet are wrong."""

    def __init__(self, at):
        self.at = at


class InvalidFrame(PromiseError):
    """A frame is wrong."""

    def __init__(self, at):
        self.at = at


class InvalidProgram(PromiseError):
    """A program is wrong."""

    def __init__(self, at):
        self.at = at


class InvalidRows(PromiseError):
    """Rows, steps or places of rows are wrong."""

    def __init__(self, at):
        self.at = at


class InvalidDatum(PromiseError):
    """A datum, or data, are wrong."""

    def __init__(self, at):
        self.at = at


class InvalidEvents(PromiseError):
    """Events are wrong."""

    def __init__(self, at):
        self.at = at


class InvalidProcessor(PromiseError):
    """A processor is wrong."""

    def __init__(self, at):
        self.at = at


class InvalidLot(PromiseError):
    """A lot of atoms is wrong."""

    def __init__(self, at):
        self.at = at


class InvalidCache(PromiseError):
    """A cache is wrong."""

    def __init__(self, at):
        self.at = at


class InvalidSource(PromiseError):
    """Classes of data are wrong."""

    def __init__(self, at):
        self.at = at


class InvalidIndex(PromiseError):
    """A number of something is wrong."""

    def __init__(self, at):
        self.at = at


class InvalidSpots(PromiseError):
    """A lot of spots is wrong."""

    def __init__(self, at):
        self.at = at


class InvalidWhole(PromiseError):
    """The parts of a whole are wrong."""

    def __init__(self, at):
        self.at = at


class InvalidLots(PromiseError):
    """Lots of numbers are wrong."""

    def __init__(self, at):
        self.at = at


class InvalidWatcher(PromiseError):
    """A watcher is wrong."""

    def __init__(self, at):
        self.at = at


class InvalidParts(PromiseError):
    """Parts of data are wrong."""

    def __init__(self, at):
        self.at = at


class InvalidDeed(PromiseError):
    """A deed can't be done."""

    def __init__(self, at):
        self.at = at


class Refused(PromiseError):
    """All is well formed, and yet it is not done."""

    def __init__(self, at):
        self.at = at


class InvalidSize(PromiseError):
    """A number that tells how many is wrong; the word tells which."""

    def __init__(self, word):
        self.word = word


class InvalidCommand(PromiseError):
    """A command has no form that is known."""

    def __init__(self):
        pass
