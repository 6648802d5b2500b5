"""Heaps: histories in which the order of steps that do not touch one another is forgotten."""

from resampler.checks import is_list
from resampler.errors import InvalidHeap, InvalidHistory, InvalidInteger, InvalidPieces, Mismatch, NotFound, TooLarge
from resampler.problems import check_problem
from resampler.sampler import check_sampler
from resampler.validation import is_integer

MOST_PIECES = 240


class Heap:
    """The layers of the pieces of a history; it never changes."""

    def __init__(self, problem, pieces=()):
        check_problem(problem)
        check_history(problem, pieces)
        self._problem = problem
        self._layers = _layers_of(problem, pieces)

    def __eq__(self, other):
        return isinstance(other, Heap) and self._problem == other._problem and self._layers == other._layers

    def __len__(self):
        return len(self.pieces())

    def __str__(self):
        return " | ".join([_layer_text(layer) for layer in self._layers])

    def __repr__(self):
        return f"Heap({self._problem!r}, {self.pieces()!r})"

    def problem(self):
        return self._problem

    def layers(self):
        return [list(layer) for layer in self._layers]

    def pieces(self):
        """Return the pieces of all layers; they are a history of this heap."""
        return [piece for layer in self._layers for piece in layer]

    def bottom(self):
        """Return the pieces of the first layer."""
        return [] if self._layers == [] else list(self._layers[0])

    def top(self):
        """Return the pieces without a piece with an adjacent event in a later layer."""
        found = []
        covered = {}
        for layer in reversed(self._layers):
            found = [piece for piece in layer if piece[0] not in covered] + found
            for event, _ in layer:
                for near in _adjacent_events(self._problem, event):
                    covered[near] = True
        return found

    def with_piece(self, piece):
        """Return the heap with one more piece at the end of the history."""
        self._check_piece(piece)
        pieces = self.pieces() + [piece]
        if len(pieces) > MOST_PIECES:
            raise TooLarge(len(pieces))
        return Heap(self._problem, pieces)

    def without_top(self, piece):
        """Return the heap without a piece of its top."""
        self._check_piece(piece)
        if piece not in self.top():
            raise NotFound(piece)
        # An equal piece may lie below: the one at the top is the last of a history.
        backwards = self.pieces()[::-1]
        backwards.remove(piece)
        return Heap(self._problem, backwards[::-1])

    def concatenated(self, other):
        """Return the heap of a history of this heap followed by one of the other."""
        self._check_match(other)
        pieces = self.pieces() + other.pieces()
        if len(pieces) > MOST_PIECES:
            raise TooLarge(len(pieces))
        return Heap(self._problem, pieces)

    def reversed_heap(self):
        return Heap(self._problem, self.pieces()[::-1])

    def is_order(self, value):
        """Tell whether a value is a history of this heap."""
        if not is_list(value, len(self), len(self)):
            return False
        return all([self._problem.is_piece(item) for item in value]) and Heap(self._problem, value) == self

    def orders(self, *, limit=500):
        """Return all histories of this heap in ascending order."""
        if not is_integer(limit, 1, 500):
            raise InvalidInteger(limit)
        columns = _columns_of(self._problem, self.pieces())
        beginnings = [([], (0,) * len(columns))]
        for _ in range(len(self)):
            beginnings = _extended(beginnings, columns)
            # Each beginning has an end, so there are at least as many histories.
            if len(beginnings) > limit:
                raise TooLarge(limit + 1)
        return [history for history, _ in beginnings]

    def dropped(self, variable):
        """Return the values of a variable in the pieces, in the order of a history."""
        self._problem.check_variable(variable)
        found = []
        for event, values in self.pieces():
            scope = self._problem.scope(event)
            if variable in scope:
                found.append(values[scope.index(variable)])
        return found

    def is_lower_part_of(self, other):
        """Tell whether a history of the other heap begins with a history of this one."""
        self._check_match(other)
        rest = other.pieces()
        for piece in self.pieces():
            first = _first_adjacent(self._problem, piece[0], rest)
            if first is None or rest[first] != piece:
                return False
            del rest[first]
        return True

    def _check_piece(self, piece):
        if not self._problem.is_piece(piece):
            raise InvalidPieces(piece)

    def _check_match(self, other):
        check_heap(other)
        if self._problem != other.problem():
            raise Mismatch(other)


def check_heap(value):
    if not isinstance(value, Heap):
        raise InvalidHeap(value)


def check_history(problem, history):
    """Check that a value is a list of pieces of a problem, of a length that is allowed."""
    if not is_list(history, 0, MOST_PIECES):
        raise InvalidPieces(history)
    for index, item in enumerate(history):
        if not problem.is_piece(item):
            raise InvalidHistory(index)


def heap_of(sampler):
    """Return the heap of the history of a sampler."""
    check_sampler(sampler)
    return Heap(sampler.problem(), sampler.history())


def piece_text(piece):
    """Return the text of a piece: the event, a colon and the values with commas."""
    values = ",".join([str(value) for value in piece[1]])
    return f"{piece[0]}:{values}"


def _layer_text(layer):
    return " ".join([piece_text(piece) for piece in layer])


def _adjacent_events(problem, event):
    return [event] + problem.neighbors(event)


def _layers_of(problem, pieces):
    """Return the layers of a history, each a list of pieces in the order of their events."""
    layers = []
    # For each event, the number of layers up to the last one that contains a piece of it.
    heights = {event: 0 for event in problem.events()}
    for event, values in pieces:
        height = max([heights[near] for near in _adjacent_events(problem, event)])
        if height == len(layers):
            layers.append({})
        # An event is adjacent to itself, so a layer has at most one piece of it.
        layers[height][event] = values
        heights[event] = height + 1
    return [_in_order(problem, layer) for layer in layers]


def _in_order(problem, layer):
    return [(event, layer[event]) for event in problem.events() if event in layer]


def _first_adjacent(problem, event, pieces):
    """Return the index of the first piece with an event that is adjacent, or None."""
    near = _adjacent_events(problem, event)
    for index, piece in enumerate(pieces):
        if piece[0] in near:
            return index
    return None


def _columns_of(problem, pieces):
    """Return for each event the list of its pieces, each with what must stand before it.

    That is a list of tuples (place of an adjacent event, number of its pieces).
    """
    events = problem.events()
    columns = [[] for _ in events]
    for piece in pieces:
        needs = [(events.index(near), len(columns[events.index(near)])) for near in problem.neighbors(piece[0])]
        columns[events.index(piece[0])].append((piece, needs))
    return columns


def _extended(beginnings, columns):
    """Return all beginnings of histories with one more piece, in ascending order.

    A beginning is a tuple of its pieces and, for each event, the number of its pieces.
    """
    found = []
    following = {}
    for history, taken in beginnings:
        # Many beginnings have the same pieces in another order.
        if taken not in following:
            following[taken] = _following_pieces(columns, taken)
        for piece, after in following[taken]:
            found.append((history + [piece], after))
    return found


def _following_pieces(columns, taken):
    """Return the pieces that may come next, each with the numbers of pieces after it."""
    found = []
    for place, column in enumerate(columns):
        count = taken[place]
        if count < len(column):
            piece, needs = column[count]
            if all([taken[near] >= least for near, least in needs]):
                found.append((piece, taken[:place] + (count + 1,) + taken[place + 1:]))
    return found
