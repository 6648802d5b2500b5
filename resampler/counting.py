"""Counting: heaps by size, with and without weights, valid assignments and tapes."""

from resampler.errors import InvalidInteger, InvalidLengths, NotExclusive, TooLarge
from resampler.heaps import Heap, check_heap
from resampler.independent import independent_tuples
from resampler.problems import check_problem, find_overlap
from resampler.ratios import Ratio, ratio_product, ratio_sum
from resampler.sampler import MOST_VALUES, MOST_VALUES_OF_TAPE
from resampler.validation import is_integer

MOST_COUNTED = 12
MOST_LISTED = 300


def independent_sets(problem):
    """Return all independent sets of events, by size and then by the positions of the events."""
    check_problem(problem)
    return independent_tuples(problem.events(), {event: problem.neighbors(event) for event in problem.events()})


def signed_counts(problem):
    """Return for each size the number of independent sets of pieces, negative for odd sizes."""
    check_problem(problem)
    counts = [total.num() for total in _signed_sums(problem, _numbers_of_pieces(problem))]
    # An event without bad tuples is in independent sets of events, but it has no piece.
    while counts[-1] == 0:
        counts.pop()
    return counts


def heap_counts(problem, *, up_to=12):
    """Return the numbers of heaps with 0, 1, ..., up_to pieces."""
    check_problem(problem)
    _check_size(up_to)
    return [total.num() for total in _inverse_series(_signed_sums(problem, _numbers_of_pieces(problem)), up_to)]


def list_heaps(problem, size, *, limit=300):
    """Return all heaps of a size in ascending order of their lists of pieces."""
    check_problem(problem)
    _check_size(size)
    if not is_integer(limit, 1, MOST_LISTED):
        raise InvalidInteger(limit)
    count = heap_counts(problem, up_to=size)[size]
    if count > limit:
        raise TooLarge(count)
    heaps = [Heap(problem)]
    for _ in range(size):
        # There are never fewer larger heaps than smaller ones, so no list here exceeds the limit.
        heaps = [longer for heap in heaps for longer in _with_last_piece(heap)]
    return heaps


def heap_weight(heap):
    """Return the product of the weights of the pieces of a heap."""
    check_heap(heap)
    problem = heap.problem()
    below = 1
    for event, _ in heap.pieces():
        for variable in problem.scope(event):
            below = below * problem.size(variable)
    return Ratio(1, below)


def weights_by_size(problem, *, up_to=12):
    """Return the sums of the weights of the heaps with 0, 1, ..., up_to pieces."""
    check_problem(problem)
    _check_size(up_to)
    return _inverse_series(_signed_sums(problem, _probabilities(problem)), up_to)


def valid_probability(problem):
    """Return the probability that an assignment of an exclusive problem is valid."""
    _check_exclusive(problem)
    return ratio_sum(_signed_sums(problem, _probabilities(problem)))


def count_tapes(heap, lengths):
    """Return how many tapes of given lengths lead to a heap and to one valid assignment."""
    check_heap(heap)
    problem = heap.problem()
    _check_exclusive(problem)
    if not _are_lengths(problem, lengths):
        raise InvalidLengths(lengths)
    count = 1
    for name, size in problem.variables():
        free = lengths[name] - len(heap.dropped(name)) - 1
        if free < 0:
            return 0
        for _ in range(free):
            count = count * size
    return count


def _check_size(value):
    if not is_integer(value, 0, MOST_COUNTED):
        raise InvalidInteger(value)


def _check_exclusive(problem):
    witness = find_overlap(problem)
    if witness is not None:
        raise NotExclusive(witness)


def _are_lengths(problem, value):
    """Tell whether a value is a dict from exactly the variables to lengths of their tapes."""
    names = [name for name, _ in problem.variables()]
    if not isinstance(value, dict) or len(value) != len(names):
        return False
    if not all([name in value and is_integer(value[name], 1, MOST_VALUES_OF_TAPE) for name in names]):
        return False
    return sum([value[name] for name in names]) <= MOST_VALUES


def _numbers_of_pieces(problem):
    return {event: Ratio(len(problem.bad_tuples(event))) for event in problem.events()}


def _probabilities(problem):
    """Return for each event the sum of the weights of its pieces."""
    return {event: problem.probability(event) for event in problem.events()}


def _signed_sums(problem, amounts):
    """Return for each size the sum of the products of the amounts of independent sets of events.

    The sums of odd sizes are negative.
    """
    sums = []
    for chosen in independent_sets(problem):
        # The sets come in the order of their sizes.
        if len(chosen) == len(sums):
            sums.append(Ratio(0))
        product = ratio_product([amounts[event] for event in chosen])
        sums[-1] = sums[-1].add(product) if len(chosen) % 2 == 0 else sums[-1].subtract(product)
    return sums


def _inverse_series(entries, up_to):
    """Return the first entries of the series whose product with another one, that begins with 1, is 1."""
    found = [Ratio(1)]
    for size in range(1, up_to + 1):
        terms = [entries[place].multiply(found[size - place]) for place in range(1, min(size + 1, len(entries)))]
        found.append(Ratio(0).subtract(ratio_sum(terms)))
    return found


def _with_last_piece(heap):
    """Return the heaps with one more piece that is the last one of pieces(), in its order."""
    problem = heap.problem()
    found = []
    for event in problem.events():
        for values in problem.bad_tuples(event):
            longer = heap.with_piece((event, values))
            # Each heap is reached once: by the piece that its own list has last.
            if longer.pieces() == heap.pieces() + [(event, values)]:
                found.append(longer)
    return found
