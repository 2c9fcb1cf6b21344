"""All errors of the package."""


class FlashError(ValueError):
    """What every error of the package is."""


class InvalidOctets(FlashError):
    """A value that should be a list of octets, or of so many of them, and is not."""

    def __init__(self, given):
        self.given = given


class InvalidCount(FlashError):
    """A value that should be a count and is not."""

    def __init__(self, given):
        self.given = given


class InvalidNumber(FlashError):
    """A value that should be a number, or True or False, and is not."""

    def __init__(self, given):
        self.given = given


class InvalidMask(FlashError):
    """A value that should be a mask and is not."""

    def __init__(self, given):
        self.given = given


class InvalidOp(FlashError):
    """A value that should be the number of an op to come and is not."""

    def __init__(self, given):
        self.given = given


class InvalidBlock(FlashError):
    """A value that should be the index of a block and is not."""

    def __init__(self, given):
        self.given = given


class InvalidPage(FlashError):
    """A value that should be the index of a page and is not."""

    def __init__(self, given):
        self.given = given


class InvalidShape(FlashError):
    """A value that no chip has as its number of blocks, of pages or of bad blocks."""

    def __init__(self, given):
        self.given = given


class InvalidImage(FlashError):
    """A value that should be the image of a chip and is not."""

    def __init__(self, given):
        self.given = given


class InvalidData(FlashError):
    """A value that should be the data of a page and is not."""

    def __init__(self, given):
        self.given = given


class InvalidRecord(FlashError):
    """A value that should be a record and is not."""

    def __init__(self, given):
        self.given = given


class InvalidPath(FlashError):
    """A value that should be a path and is not."""

    def __init__(self, given):
        self.given = given


class InvalidDeed(FlashError):
    """A value that should be a deed or a step and is not."""

    def __init__(self, given):
        self.given = given


class InvalidLine(FlashError):
    """A value that should be the line of a step, or of a desk, and is not."""

    def __init__(self, given):
        self.given = given


class InvalidScript(FlashError):
    """A value that should be a script, or the lines of one, and is not."""

    def __init__(self, given):
        self.given = given


class InvalidTree(FlashError):
    """A value that should be a tree, or a list of trees, and is not."""

    def __init__(self, given):
        self.given = given


class InvalidChip(FlashError):
    """A value that should be a chip, or a chip whose records tell a tree, and is not."""

    def __init__(self, given):
        self.given = given


class InvalidRecords(FlashError):
    """A value that should be a list of records that go together and is not."""

    def __init__(self, given):
        self.given = given


class InvalidName(FlashError):
    """A value that should be a name and is not."""

    def __init__(self, given):
        self.given = given


class InvalidPlans(FlashError):
    """A value that should be a list of plans and is not."""

    def __init__(self, given):
        self.given = given


class PowerCut(FlashError):
    """The power was cut amid the op with this number."""

    def __init__(self, op):
        self.op = op


class TooMany(FlashError):
    """There would be so many things, which is more than there may be."""

    def __init__(self, count):
        self.count = count


class NoThing(FlashError):
    """There is no thing with this name."""

    def __init__(self, name):
        self.name = name


class NotReady(FlashError):
    """Something is to be done that has to be made ready first."""


class NoRoom(FlashError):
    """There is no block left for what is to be written."""


class NothingToUndo(FlashError):
    """There is no line that could be taken back."""
