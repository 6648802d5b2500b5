import random
import unittest
from fractions import Fraction
from itertools import combinations, product
from math import prod

from resampler.counting import (count_tapes, heap_counts, heap_weight, independent_sets, list_heaps, signed_counts,
                                valid_probability, weights_by_size)
from resampler.errors import (InvalidHeap, InvalidInteger, InvalidLengths, InvalidProblem, NotExclusive, TooLarge)
from resampler.heaps import Heap, heap_of
from resampler.problems import Problem, find_overlap, valid_assignments
from resampler.ratios import Ratio
from resampler.sampler import Sampler, run_sampler
from tests.samples import all_values, non_integers_from, without_kind
from tests.support import (EVENT_NAMES, VARIABLE_NAMES, PackageTest, demo, fraction, long_names, made_exclusive, names_of,
                           pair, pieces_of, problems, random_history, shares)

X, Y = ("x", (0, 0)), ("y", (1, 1))


def overlapping():
    return Problem([("a", 2)], [("x", ["a"], [(1,)]), ("y", ["a"], [(1,)])])


def apart(problem, events):
    """Tell by the definition whether no two of some events are adjacent."""
    return not any([shares(problem, one, other) for one, other in combinations(events, 2)])


def weight(problem, piece):
    return Fraction(1, prod([problem.size(variable) for variable in problem.scope(piece[0])]))


def independent_pieces(problem, size):
    """Return by the definition the independent sets of pieces of a size."""
    return [chosen for chosen in combinations(pieces_of(problem), size)
            if apart(problem, [event for event, _ in chosen])]


def without_zeros(values):
    while values[-1] == 0:
        values = values[:-1]
    return values


def all_heaps(problem, size):
    """Return all heaps of a size in ascending order of their lists of pieces, from all histories."""
    found = {}
    for history in product(pieces_of(problem), repeat=size):
        heap = Heap(problem, list(history))
        found[tuple(heap.pieces())] = heap
    rank = problem.events().index
    return [found[key] for key in sorted(found, key=lambda pieces: [(rank(event), values) for event, values in pieces])]


def small_problems(count, seed):
    """Return problems with at most five pieces."""
    found = [problem for problem in problems(count, seed, variables=3, size=2, events=3) if len(pieces_of(problem)) <= 5]
    return found + [demo(), pair(), Problem([("a", 1)])]


class IndependentSets(PackageTest):
    def test_by_the_definition(self):
        for problem in problems(100, 70, events=5) + [Problem([("a", 1)])]:
            events = problem.events()
            expected = [chosen for size in range(len(events) + 1) for chosen in combinations(events, size)
                        if apart(problem, chosen)]
            self.assertEqual(independent_sets(problem), expected)

    def test_examples(self):
        self.assertEqual(independent_sets(demo()), [(), ("x",), ("y",)])
        self.assertEqual(independent_sets(problem=pair()), [(), ("x",), ("y",), ("x", "y")])
        self.assertEqual(independent_sets(Problem([("a", 1)])), [()])

    def test_order_is_that_of_the_problem(self):
        problem = Problem([(name, 1) for name in "abcd"], [(name, [name], []) for name in "dbca"])
        self.assertEqual(independent_sets(problem)[:8], [(), ("d",), ("b",), ("c",), ("a",), ("d", "b"), ("d", "c"), ("d", "a")])
        self.assertEqual([len(independent_sets(problem)), independent_sets(problem)[-1]], [16, ("d", "b", "c", "a")])

    def test_eight_events_that_are_apart(self):
        problem = Problem([(name, 2) for name in VARIABLE_NAMES],
                          [(event, [name], [(0,)]) for event, name in zip(EVENT_NAMES, VARIABLE_NAMES)])
        self.assertEqual(len(independent_sets(problem)), 256)
        self.assertEqual(signed_counts(problem), [1, -8, 28, -56, 70, -56, 28, -8, 1])
        self.assertEqual(valid_probability(problem), Ratio(1, 256))

    def test_events_without_bad_tuples(self):
        self.assertEqual(independent_sets(long_names()), [(), ("both",), ("low",), ("never",), ("low", "never")])

    def test_new_lists(self):
        self.assert_new_lists(lambda: independent_sets(demo()))

    def test_no_problem(self):
        for value in without_kind(Problem):
            self.assert_error(InvalidProblem, "value", value, independent_sets, value)


class SignedCounts(PackageTest):
    def test_by_the_definition(self):
        for problem in problems(60, 71, events=4) + [pair(), demo()]:
            counts = [(-1) ** size * len(independent_pieces(problem, size)) for size in range(5)]
            self.assertEqual(signed_counts(problem), without_zeros(counts))

    def test_examples(self):
        self.assertEqual([signed_counts(demo()), signed_counts(problem=pair())], [[1, -2], [1, -2, 1]])
        self.assertEqual(signed_counts(Problem([("a", 1)])), [1])

    def test_end_of_the_list(self):
        # The only independent set of two events has no piece of one of them.
        self.assertEqual(signed_counts(long_names()), [1, -3])
        self.assertEqual(signed_counts(Problem([("a", 2)], [("x", ["a"], [])])), [1])
        empty = [(name, [name], []) for name in "abc"]
        self.assertEqual(signed_counts(Problem([(name, 2) for name in "abc"], empty)), [1])

    def test_kinds_of_numbers(self):
        for count in signed_counts(pair()) + heap_counts(pair()):
            self.assertIs(type(count), int)

    def test_new_lists(self):
        self.assert_new_lists(lambda: signed_counts(demo()))

    def test_no_problem(self):
        for value in without_kind(Problem):
            self.assert_error(InvalidProblem, "value", value, signed_counts, value)


class HeapCounts(PackageTest):
    def test_examples(self):
        self.assertEqual([heap_counts(demo(), up_to=3), heap_counts(pair(), up_to=3)], [[1, 2, 4, 8], [1, 2, 3, 4]])
        self.assertEqual(heap_counts(problem=demo()), [2 ** size for size in range(13)])
        self.assertEqual(heap_counts(Problem([("a", 1)]), up_to=4), [1, 0, 0, 0, 0])
        self.assertEqual(heap_counts(up_to=0, problem=demo()), [1])

    def test_by_listing(self):
        for problem in small_problems(60, 72):
            expected = [len(all_heaps(problem, size)) for size in range(5)]
            self.assertEqual(heap_counts(problem, up_to=4), expected)

    def test_inverse_series(self):
        for problem in problems(60, 73):
            signed, counts = signed_counts(problem), heap_counts(problem)
            self.assertEqual([counts[0], len(counts)], [1, 13])
            signed = signed + [0] * 13
            for size in range(1, 13):
                self.assertEqual(sum([signed[at] * counts[size - at] for at in range(size + 1)]), 0)

    def test_each_length(self):
        for up_to in range(13):
            self.assertEqual(heap_counts(pair(), up_to=up_to), [size + 1 for size in range(up_to + 1)])

    def test_no_integers(self):
        for value in non_integers_from(0, 12):
            self.assert_error(InvalidInteger, "value", value, heap_counts, demo(), up_to=value)
        with self.assertRaises(TypeError):
            heap_counts(demo(), 3)

    def test_no_problem(self):
        for value in without_kind(Problem):
            self.assert_error(InvalidProblem, "value", value, heap_counts, value)
            self.assert_error(InvalidProblem, "value", value, heap_counts, value, up_to=13)

    def test_new_lists(self):
        self.assert_new_lists(lambda: heap_counts(demo()))


class ListHeaps(PackageTest):
    def test_example(self):
        heaps = list_heaps(pair(), 2)
        self.assertEqual([str(heap) for heap in heaps], ["x:1 | x:1", "x:1 y:1", "y:1 | y:1"])
        self.assertEqual(list_heaps(limit=3, size=2, problem=pair()), heaps)

    def test_by_listing(self):
        seen = 0
        for problem in small_problems(60, 74):
            for size in range(5):
                expected = all_heaps(problem, size)
                if len(expected) > 300:
                    self.assert_number(TooLarge, "count", len(expected), list_heaps, problem, size)
                    continue
                found = list_heaps(problem, size)
                self.assertEqual(found, expected)
                self.assertEqual([type(heap) for heap in found], [Heap] * len(found))
                self.assertEqual(len(found), heap_counts(problem, up_to=size)[size])
                seen += len(found)
        self.assertGreater(seen, 1000)

    def test_order_of_pieces(self):
        # The position of the event comes first, then the bad tuple.
        problem = Problem([("a", 3), ("b", 2)], [("z", ["a"], [(2,), (0,)]), ("x", ["b"], [(1,)])])
        self.assertEqual([str(heap) for heap in list_heaps(problem, 1)], ["z:0", "z:2", "x:1"])
        self.assertEqual([str(heap) for heap in list_heaps(problem, 2)],
                         ["z:0 | z:0", "z:0 | z:2", "z:0 x:1", "z:2 | z:0", "z:2 | z:2", "z:2 x:1", "x:1 | x:1"])

    def test_sizes_without_heaps(self):
        for problem in (Problem([("a", 1)]), Problem([("a", 2)], [("x", ["a"], [])])):
            self.assertEqual(list_heaps(problem, 0), [Heap(problem)])
            self.assertEqual([list_heaps(problem, size) for size in (1, 12)], [[], []])

    def test_limit(self):
        self.assertEqual(len(list_heaps(demo(), 8)), 256)
        self.assert_number(TooLarge, "count", 512, list_heaps, demo(), 9)
        self.assert_number(TooLarge, "count", 4096, list_heaps, demo(), 12)
        self.assert_number(TooLarge, "count", 256, list_heaps, demo(), 8, limit=255)
        self.assertEqual(len(list_heaps(demo(), 8, limit=256)), 256)
        self.assertEqual(len(list_heaps(pair(), 12, limit=13)), 13)
        self.assert_number(TooLarge, "count", 13, list_heaps, pair(), 12, limit=12)
        self.assertEqual(list_heaps(demo(), 0, limit=1), [Heap(demo())])
        self.assert_number(TooLarge, "count", 2, list_heaps, demo(), 1, limit=1)

    def test_no_integers(self):
        for value in non_integers_from(0, 12):
            self.assert_error(InvalidInteger, "value", value, list_heaps, demo(), value)
            self.assert_error(InvalidInteger, "value", value, list_heaps, demo(), value, limit=0)
        for value in non_integers_from(1, 300):
            self.assert_error(InvalidInteger, "value", value, list_heaps, demo(), 12, limit=value)
        with self.assertRaises(TypeError):
            list_heaps(demo(), 1, 300)

    def test_no_problem(self):
        for value in without_kind(Problem):
            self.assert_error(InvalidProblem, "value", value, list_heaps, value, 1)
            self.assert_error(InvalidProblem, "value", value, list_heaps, value, -1, limit=0)

    def test_new_lists(self):
        self.assert_new_lists(lambda: list_heaps(pair(), 3))


class Weights(PackageTest):
    def test_weights_of_heaps(self):
        source = random.Random(75)
        for problem in problems(60, 75):
            history = random_history(source, problem, source.randint(0, 9))
            found = heap_weight(Heap(problem, history))
            self.assertIs(type(found), Ratio)
            self.assertEqual(fraction(found), prod([weight(problem, piece) for piece in history]))

    def test_examples(self):
        self.assertEqual(str(heap_weight(Heap(demo(), [X, Y, X]))), "1/64")
        self.assertEqual(heap_weight(heap=Heap(demo())), Ratio(1))
        self.assertEqual(str(heap_weight(Heap(long_names(), [("both", (0, 0)), ("low", (1,))]))), "1/12")
        self.assertEqual(heap_weight(Heap(Problem([("a", 1)], [("x", ["a"], [(0,)])]), [("x", (0,))] * 9)), Ratio(1))

    def test_no_heap(self):
        for value in without_kind(Heap):
            self.assert_error(InvalidHeap, "value", value, heap_weight, value)

    def test_by_listing(self):
        for problem in small_problems(60, 76):
            found = weights_by_size(problem, up_to=4)
            for size, total in enumerate(found):
                self.assertIs(type(total), Ratio)
                expected = sum([fraction(heap_weight(heap)) for heap in all_heaps(problem, size)])
                self.assertEqual(fraction(total), expected)
            self.assertEqual(len(found), 5)

    def test_inverse_series(self):
        for problem in problems(50, 77):
            signed = [(-1) ** size * sum([prod([weight(problem, piece) for piece in chosen])
                                          for chosen in independent_pieces(problem, size)]) for size in range(5)]
            signed, sums = signed + [0] * 13, [fraction(total) for total in weights_by_size(problem)]
            self.assertEqual([sums[0], len(sums)], [1, 13])
            for size in range(1, 13):
                self.assertEqual(sum([signed[at] * sums[size - at] for at in range(size + 1)]), 0)

    def test_sums_of_examples(self):
        self.assertEqual([str(total) for total in weights_by_size(up_to=3, problem=demo())], ["1", "1/2", "1/4", "1/8"])
        self.assertEqual([str(total) for total in weights_by_size(pair(), up_to=3)], ["1", "1", "3/4", "1/2"])
        self.assertEqual(weights_by_size(demo(), up_to=0), [Ratio(1)])
        self.assertEqual(weights_by_size(Problem([("a", 1)])), [Ratio(1)] + [Ratio(0)] * 12)

    def test_no_integers(self):
        for value in non_integers_from(0, 12):
            self.assert_error(InvalidInteger, "value", value, weights_by_size, demo(), up_to=value)
        with self.assertRaises(TypeError):
            weights_by_size(demo(), 3)

    def test_no_problem(self):
        for value in without_kind(Problem):
            self.assert_error(InvalidProblem, "value", value, weights_by_size, value)
            self.assert_error(InvalidProblem, "value", value, weights_by_size, value, up_to=-1)

    def test_new_lists(self):
        self.assert_new_lists(lambda: weights_by_size(demo()))


class ValidProbability(PackageTest):
    def test_share_of_the_assignments(self):
        seen = 0
        for problem in [made_exclusive(problem) for problem in problems(150, 78)] + [demo(), pair()]:
            found = valid_probability(problem)
            self.assertIs(type(found), Ratio)
            self.assertEqual(found, Ratio(len(valid_assignments(problem)), problem.assignment_count()))
            seen += found.sign() > 0
        self.assertGreater(seen, 50)

    def test_examples(self):
        self.assertEqual([str(valid_probability(problem=demo())), str(valid_probability(pair()))], ["1/2", "1/4"])
        self.assertEqual(valid_probability(Problem([("a", 3)])), Ratio(1))
        self.assertEqual(valid_probability(Problem([("a", 1)], [("x", ["a"], [(0,)])])), Ratio(0))

    def test_problems_that_are_not_exclusive(self):
        seen = 0
        for problem in problems(60, 79) + [overlapping()]:
            if find_overlap(problem) is not None:
                with self.assertRaises(NotExclusive) as context:
                    valid_probability(problem)
                self.assertEqual(context.exception.witness, find_overlap(problem))
                seen += 1
        self.assertGreater(seen, 10)

    def test_no_problem(self):
        for value in without_kind(Problem):
            self.assert_error(InvalidProblem, "value", value, valid_probability, value)


def all_tapes(problem, lengths):
    choices = [list(product(range(size), repeat=lengths[name])) for name, size in problem.variables()]
    return [dict(zip(names_of(problem), chosen)) for chosen in product(*choices)]


def endings(problem, lengths):
    """Return for each heap and valid assignment the number of tapes whose run ends with them."""
    found = {}
    for tapes in all_tapes(problem, lengths):
        sampler = Sampler(problem, tapes)
        run_sampler(sampler)
        if sampler.is_valid():
            heap = heap_of(sampler)
            counts = found.setdefault(str(heap), (heap, {}))[1]
            counts[sampler.assignment()] = counts.get(sampler.assignment(), 0) + 1
    return found


class CountTapes(PackageTest):
    def test_example(self):
        heap = Heap(demo(), [X, Y, X])
        self.assertEqual(count_tapes(heap, {"a": 3, "b": 5, "c": 2}), 2)
        self.assertEqual(count_tapes(lengths={"c": 2, "b": 5, "a": 3}, heap=heap), 2)

    def test_tapes_tried_one_by_one(self):
        source, seen = random.Random(80), 0
        for problem in [made_exclusive(problem) for problem in problems(150, 80, variables=3, size=2)] + [demo(), pair()] * 8:
            lengths = {name: source.randint(1, 4) for name in names_of(problem)}
            found, valid = endings(problem, lengths), valid_assignments(problem)
            for heap, counts in found.values():
                self.assertEqual(counts, {assignment: count_tapes(heap, lengths) for assignment in valid})
                seen += 1
            if valid:
                for history in ([], random_history(source, problem, 1), random_history(source, problem, 3)):
                    heap = Heap(problem, history)
                    self.assertEqual(count_tapes(heap, lengths) > 0, str(heap) in found)
        self.assertGreater(seen, 100)

    def test_by_the_definition(self):
        source = random.Random(81)
        for problem in [made_exclusive(problem) for problem in problems(80, 81)]:
            heap = Heap(problem, random_history(source, problem, source.randint(0, 4)))
            lengths = {name: source.randint(1, 9) for name in names_of(problem)}
            spare = [(size, lengths[name] - len(heap.dropped(name)) - 1) for name, size in problem.variables()]
            expected = 0 if min([rest for _, rest in spare]) < 0 else prod([size ** rest for size, rest in spare])
            self.assertEqual(count_tapes(heap, lengths), expected)

    def test_lengths_that_do_not_suffice(self):
        heap = Heap(demo(), [X, Y, X])
        for lengths, expected in [({"a": 3, "b": 4, "c": 2}, 1), ({"a": 2, "b": 40, "c": 40}, 0),
                                  ({"a": 40, "b": 3, "c": 40}, 0), ({"a": 40, "b": 40, "c": 1}, 0),
                                  ({"a": 40, "b": 40, "c": 40}, 2 ** 111)]:
            self.assertEqual(count_tapes(heap, lengths), expected)

    def test_problems_without_valid_assignments(self):
        problem = Problem([("a", 2)], [("x", ["a"], [(0,), (1,)])])
        self.assertEqual(count_tapes(Heap(problem, [("x", (0,))]), {"a": 5}), 8)

    def test_no_lengths(self):
        wrong = [{"a": 1, "b": 1}, {"a": 1, "b": 1, "c": 1, "d": 1}, {"a": 1, "b": 1, "d": 1}, {"a": 0, "b": 1, "c": 1},
                 {"a": 1, "b": 41, "c": 1}, {"a": 1, "b": True, "c": 1}, {"a": 1, "b": "1", "c": 1}, {"a": 1, "b": 1, "c": None},
                 {"a": 1, "b": [1], "c": 1}, {"a": 1, "b": -1, "c": 1}, {"a": 1, "b": 1, 0: 1}, [1, 1, 1], (1, 1, 1),
                 [("a", 1), ("b", 1), ("c", 1)], {"a": Ratio(1), "b": 1, "c": 1}, {"x": 1, "y": 1}, {"a": 10 ** 29, "b": 1, "c": 1}]
        for value in all_values() + wrong:
            self.assert_error(InvalidLengths, "value", value, count_tapes, Heap(demo()), value)

    def test_sum_of_the_lengths(self):
        problem = Problem([(name, 1) for name in VARIABLE_NAMES])
        lengths = {name: 25 for name in VARIABLE_NAMES}
        self.assertEqual(count_tapes(Heap(problem), lengths), 1)
        self.assertEqual(count_tapes(Heap(problem), {**lengths, "a": 40, "b": 10}), 1)
        lengths["c"] = 26
        self.assert_error(InvalidLengths, "value", lengths, count_tapes, Heap(problem), lengths)

    def test_problems_that_are_not_exclusive(self):
        heap = Heap(overlapping(), [("x", (1,))])
        for lengths in ({"a": 3}, {"a": 0}, None):
            with self.assertRaises(NotExclusive) as context:
                count_tapes(heap, lengths)
            self.assertEqual(context.exception.witness, ("x", "y", (1,)))

    def test_no_heap(self):
        for value in without_kind(Heap):
            self.assert_error(InvalidHeap, "value", value, count_tapes, value, {"a": 1})
            self.assert_error(InvalidHeap, "value", value, count_tapes, value, None)


if __name__ == "__main__":
    unittest.main()
