"""The exceptions of the package.

The messages never show the field: it may hold any value, and it may change later.
"""


class ResampleError(ValueError):
    """An argument is invalid."""


class MissingError(KeyError):
    """A name is unknown."""


class StateError(LookupError):
    """An operation is not possible now."""


class InvalidName(ResampleError):
    def __init__(self, value):
        super().__init__("not a name")
        self.value = value


class InvalidInteger(ResampleError):
    def __init__(self, value):
        super().__init__("not an integer in the range that is allowed here")
        self.value = value


class InvalidRatio(ResampleError):
    def __init__(self, value):
        super().__init__("not a Ratio that is allowed here")
        self.value = value


class InvalidVariables(ResampleError):
    def __init__(self, value):
        super().__init__("not a list of variables of a problem")
        self.value = value


class InvalidEvents(ResampleError):
    def __init__(self, value):
        super().__init__("not a list of events")
        self.value = value


class InvalidProblem(ResampleError):
    def __init__(self, value):
        super().__init__("not a problem")
        self.value = value


class InvalidAssignment(ResampleError):
    def __init__(self, value):
        super().__init__("not an assignment of the problem")
        self.value = value


class InvalidTapes(ResampleError):
    def __init__(self, value):
        super().__init__("not tapes for the problem")
        self.value = value


class InvalidSampler(ResampleError):
    def __init__(self, value):
        super().__init__("not a sampler")
        self.value = value


class InvalidChoice(ResampleError):
    def __init__(self, value):
        super().__init__("not one of the ready events")
        self.value = value


class InvalidPieces(ResampleError):
    def __init__(self, value):
        super().__init__("not pieces of the problem")
        self.value = value


class InvalidHistory(ResampleError):
    def __init__(self, index):
        super().__init__("not a piece of the problem at an index of the history")
        self.index = index


class InvalidHeap(ResampleError):
    def __init__(self, value):
        super().__init__("not a heap")
        self.value = value


class InvalidLengths(ResampleError):
    def __init__(self, value):
        super().__init__("not lengths of tapes for the problem")
        self.value = value


class InvalidGraph(ResampleError):
    def __init__(self, value):
        super().__init__("not a graph or not a part of one")
        self.value = value


class InvalidProbabilities(ResampleError):
    def __init__(self, value):
        super().__init__("not probabilities of the graph")
        self.value = value


class InvalidNames(ResampleError):
    def __init__(self, value):
        super().__init__("not a list of names")
        self.value = value


class InvalidOrder(ResampleError):
    def __init__(self, value):
        super().__init__("not an order of the names of the graph")
        self.value = value


class InvalidWeights(ResampleError):
    def __init__(self, value):
        super().__init__("not a list of weights")
        self.value = value


class InvalidTable(ResampleError):
    def __init__(self, value):
        super().__init__("not a table")
        self.value = value


class InvalidCertificate(ResampleError):
    def __init__(self, value):
        super().__init__("not a certificate with the verdict that is needed here")
        self.value = value


class InvalidTree(ResampleError):
    def __init__(self, value):
        super().__init__("not a witness tree of the problem")
        self.value = value


class InvalidText(ResampleError):
    def __init__(self, value):
        super().__init__("not a text of the form that is needed here")
        self.value = value


class InvalidLine(ResampleError):
    def __init__(self, index):
        super().__init__("a line of the text is invalid or missing")
        self.index = index


class InvalidCommand(ResampleError):
    def __init__(self, value):
        super().__init__("not a command")
        self.value = value


class DuplicateName(ResampleError):
    def __init__(self, name):
        super().__init__("a name appears twice")
        self.name = name


class Mismatch(ResampleError):
    def __init__(self, value):
        super().__init__("two arguments do not belong together")
        self.value = value


class TooLarge(ResampleError):
    def __init__(self, count):
        super().__init__("too many items")
        self.count = count


class UnknownVariable(MissingError):
    def __init__(self, name):
        super().__init__("no such variable")
        self.name = name


class UnknownEvent(MissingError):
    def __init__(self, name):
        super().__init__("no such event")
        self.name = name


class UnknownName(MissingError):
    def __init__(self, name):
        super().__init__("no such name")
        self.name = name


class NotFound(MissingError):
    def __init__(self, value):
        super().__init__("not found")
        self.value = value


class NotOccurring(StateError):
    def __init__(self, event):
        super().__init__("the event does not occur")
        self.event = event


class TapeExhausted(StateError):
    def __init__(self, variable):
        super().__init__("a tape has no further value")
        self.variable = variable


class NotExclusive(StateError):
    def __init__(self, witness):
        super().__init__("the problem is not exclusive")
        self.witness = witness


class NothingToUndo(StateError):
    def __init__(self):
        super().__init__("there is no step to undo")


class SamplerBusy(StateError):
    def __init__(self):
        super().__init__("a run of the sampler is active")
