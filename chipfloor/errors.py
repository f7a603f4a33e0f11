"""The errors of the package: each one is a direct subclass of FloorError."""


class FloorError(ValueError):
    """The base class of all errors of the package."""


class BadSizes(FloorError):
    """A value is no sizes or no blocks."""

    def __init__(self, index):
        self.index = index


class BadWord(FloorError):
    """A value is no slicing word, or not one that is asked for."""

    def __init__(self, index):
        self.index = index


class BadMove(FloorError):
    """A value is no move of a word."""


class TooMany(FloorError):
    """There is more than the function takes, or makes."""

    def __init__(self, most):
        self.most = most


class BadChoice(FloorError):
    """A value is no choice of a size for each block."""

    def __init__(self, index):
        self.index = index


class BadPacking(FloorError):
    """A value is no packing."""

    def __init__(self, index):
        self.index = index


class BadOrders(FloorError):
    """Values are no orders of all things."""


class BadBush(FloorError):
    """A value is no bush of all blocks."""


class BadNumber(FloorError):
    """A value is no integer in the range, or not one of the names."""


class BadChannel(FloorError):
    """Two values are no channel."""

    def __init__(self, index):
        self.index = index


class BadTracks(FloorError):
    """A value is no routing of the channel."""


class HasRing(FloorError):
    """Things that ought to follow one another go around in a ring."""


class BadPins(FloorError):
    """A value is no pins or no ends."""

    def __init__(self, index):
        self.index = index


class BadTree(FloorError):
    """A value is no sides of a tree of wires."""

    def __init__(self, index):
        self.index = index


class BadTopology(FloorError):
    """A value is no topology of all ends."""


class BadNets(FloorError):
    """A value is no nets of the cells."""

    def __init__(self, index):
        self.index = index


class BadSides(FloorError):
    """A value is no side of a cut."""


class BadRow(FloorError):
    """A value is no cells in a row, or no places of them."""

    def __init__(self, index):
        self.index = index


class BadMask(FloorError):
    """A value is no mask."""

    def __init__(self, index):
        self.index = index


class BadDevices(FloorError):
    """A value is no list of devices, or no known nets."""

    def __init__(self, index):
        self.index = index


class BadGaps(FloorError):
    """A value is no rules of gaps."""

    def __init__(self, index):
        self.index = index


class BadGates(FloorError):
    """A value is no tree of gates."""


class BadLibrary(FloorError):
    """A value is no library of cells."""

    def __init__(self, index):
        self.index = index


class BadWires(FloorError):
    """A value is no tree of wires with loads, or no nodes of it."""

    def __init__(self, index):
        self.index = index


class BadBuffer(FloorError):
    """A value is no driver or no buffer."""


class BadCircuit(FloorError):
    """Values are no circuit."""

    def __init__(self, index):
        self.index = index


class BadLags(FloorError):
    """A value is no lags of the circuit."""


class BadMaze(FloorError):
    """A value is no maze, or not one of the size of another one."""


class BadPlace(FloorError):
    """A value is no free place of the maze."""


class NotText(FloorError):
    """A value is no string."""


class InvalidText(FloorError):
    """A word of a line cannot stand there."""

    def __init__(self, line, word):
        self.line = line
        self.word = word


class NothingToUndo(FloorError):
    """There is no step that could be taken back."""


class NothingToRedo(FloorError):
    """There is no step that was taken back."""
