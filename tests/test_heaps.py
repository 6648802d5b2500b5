import random
import unittest

from resampler.errors import (InvalidHeap, InvalidHistory, InvalidInteger, InvalidPieces, InvalidProblem, InvalidSampler,
                              Mismatch, NotFound, TooLarge, UnknownVariable)
from resampler.heaps import Heap, heap_of
from resampler.problems import Problem
from resampler.sampler import Sampler, round_robin, run_sampler
from tests.samples import all_values, non_integers_from, non_lists, without_kind
from tests.support import (PackageTest, demo, fresh, long_names, pair, pieces_of, problems, random_history,
                           random_tapes, shares)

X, Y = ("x", (0, 0)), ("y", (1, 1))
ONE, OTHER = ("x", (1,)), ("y", (1,))
BOTH, LOW = ("both", (2, 1)), ("low", (1,))


def chain():
    """Return a problem in which each of five events is adjacent to the next one only."""
    return Problem([(name, 2) for name in "abcdef"],
                   [(name, [one, other], [(0, 1), (1, 0)]) for name, one, other in
                    [("v", "a", "b"), ("w", "b", "c"), ("x", "c", "d"), ("y", "d", "e"), ("z", "e", "f")]])


def equivalents(problem, history):
    """Return by the definition all histories that swaps make of a history."""
    found, rest = {tuple(history)}, [tuple(history)]
    while rest:
        one = rest.pop()
        for at in range(len(one) - 1):
            if not shares(problem, one[at][0], one[at + 1][0]):
                swapped = one[:at] + (one[at + 1], one[at]) + one[at + 2:]
                if swapped not in found:
                    found.add(swapped)
                    rest.append(swapped)
    return found


def rank(problem, history):
    return [(problem.events().index(event), values) for event, values in history]


def ordered(problem, histories):
    return sorted([list(one) for one in histories], key=lambda one: rank(problem, one))


def layers_by_definition(problem, history):
    layers = []
    for piece in history:
        near = [at for at, layer in enumerate(layers) if [one for one in layer if shares(problem, one[0], piece[0])]]
        place = near[-1] + 1 if near else 0
        layers = layers + [[]] if place == len(layers) else layers
        layers[place] = layers[place] + [piece]
    return [sorted(layer, key=lambda one: problem.events().index(one[0])) for layer in layers]


def cases(count, seed, length=6):
    """Return problems with pieces, each with a history."""
    source, found = random.Random(seed), []
    for problem in problems(count, seed) + [demo(), pair(), chain()] * (count // 10):
        found.append((problem, random_history(source, problem, source.randint(0, length))))
    return found


def shown(heap):
    """Return all that a heap shows of itself."""
    dropped = [heap.dropped(name) for name, _ in heap.problem().variables()]
    return [heap.layers(), heap.pieces(), heap.bottom(), heap.top(), len(heap), str(heap), dropped]


class Building(PackageTest):
    def test_example(self):
        heap = Heap(demo(), [X, Y, X])
        self.assertEqual(str(heap), "x:0,0 | y:1,1 | x:0,0")
        self.assertEqual([heap.layers(), len(heap), heap.problem()], [[[X], [Y], [X]], 3, demo()])

    def test_layers_by_the_definition(self):
        for problem, history in cases(200, 50, length=12):
            layers = layers_by_definition(problem, history)
            heap = Heap(problem, history)
            self.assertEqual(heap.layers(), layers)
            self.assertEqual(heap.pieces(), [piece for layer in layers for piece in layer])
            self.assertEqual([heap.bottom(), len(heap)], [layers[0] if layers else [], len(history)])

    def test_same_layers_exactly_if_equivalent(self):
        for problem, history in cases(60, 51, length=5):
            heap, alike = Heap(problem, history), equivalents(problem, history)
            for one in alike:
                self.assertEqual([shown(Heap(problem, list(one))), Heap(problem, list(one)) == heap],
                                 [shown(heap), True])
            source = random.Random(5)
            for _ in range(20):
                one = source.sample(history, len(history))
                self.assertIs(Heap(problem, one) == heap, tuple(one) in alike)

    def test_empty_heap(self):
        for heap in (Heap(demo()), Heap(demo(), []), Heap(demo(), ()), Heap(problem=demo(), pieces=[])):
            self.assertEqual(shown(heap), [[], [], [], [], 0, "", [[], [], []]])
            self.assertEqual(heap, Heap(demo()))
        self.assertEqual(shown(Heap(Problem([("a", 1)])))[:-1], [[], [], [], [], 0, ""])

    def test_tuples_for_lists(self):
        self.assertEqual(Heap(demo(), (X, Y)), Heap(demo(), [X, Y]))
        self.assertIs(type(Heap(demo(), (X, Y)).layers()[0]), list)

    def test_later_changes_of_the_arguments(self):
        pieces = [X, Y]
        heap = Heap(demo(), pieces)
        pieces.append(X)
        pieces[0] = Y
        self.assertEqual(heap, Heap(demo(), [X, Y]))

    def test_no_list_is_shared_with_the_heap(self):
        heap = Heap(pair(), [ONE, ONE, OTHER])
        for action in (heap.layers, heap.pieces, heap.bottom, heap.top, heap.orders, lambda: heap.dropped("a")):
            self.assert_new_lists(action)

    def test_number_of_pieces(self):
        for length in (1, 239, 240):
            self.assertEqual(len(Heap(demo(), [X] * length)), length)
        for pieces in ([X] * 241, (X,) * 250, [5] * 241):
            self.assert_error(InvalidPieces, "value", pieces, Heap, demo(), pieces)

    def test_no_list(self):
        for value in non_lists() + ["x:0,0", {0: X}]:
            self.assert_error(InvalidPieces, "value", value, Heap, demo(), value)

    def test_no_pieces(self):
        for value in all_values() + [("x", (1, 1)), ("x", (0,)), ("x", (0, 0, 0)), ("x", [0, 0]), ["x", (0, 0)],
                                     ("x", (False, 0)), ("x", (0, False)), ("x", (False, False)), ("a", (0, 0)),
                                     ("x", (0, 0), 0), ("x",), ((0, 0), "x"), "x:0,0", ("x", 0, 0), ("x", "00"),
                                     ("x", ((0, 0),)), (["x"], (0, 0)), (("x", "y"), (0, 0)), ("x", None)]:
            for index in (0, 1, 3):
                pieces = [X, Y, X][:index] + [value, X, 5]
                self.assert_number(InvalidHistory, "index", index, Heap, demo(), pieces)
                self.assert_number(InvalidHistory, "index", index, Heap, demo(), tuple(pieces))

    def test_no_problem(self):
        for value in without_kind(Problem):
            self.assert_error(InvalidProblem, "value", value, Heap, value)
            self.assert_error(InvalidProblem, "value", value, Heap, value, 5)


class Reading(PackageTest):
    def test_order_in_a_layer(self):
        problem = Problem([("a", 2), ("b", 2), ("c", 2)], [(name, [name], [(0,), (1,)]) for name in "cab"])
        heap = Heap(problem, [("b", (0,)), ("a", (1,)), ("c", (1,)), ("b", (1,)), ("c", (0,))])
        self.assertEqual(str(heap), "c:1 a:1 b:0 | c:0 b:1")
        self.assertEqual(heap.top(), [("a", (1,)), ("c", (0,)), ("b", (1,))])
        self.assertEqual(heap.bottom(), [("c", (1,)), ("a", (1,)), ("b", (0,))])

    def test_top_by_the_definition(self):
        for problem, history in cases(150, 52, length=10):
            heap = Heap(problem, history)
            layers = heap.layers()
            expected = [piece for at, layer in enumerate(layers) for piece in layer
                        if not [one for later in layers[at + 1:] for one in later if shares(problem, one[0], piece[0])]]
            self.assertEqual(heap.top(), expected)

    def test_top_holds_the_last_pieces(self):
        for problem, history in cases(60, 53, length=5):
            last = {one[-1] for one in equivalents(problem, history) if one}
            first = {one[0] for one in equivalents(problem, history) if one}
            self.assertEqual([set(Heap(problem, history).top()), set(Heap(problem, history).bottom())], [last, first])

    def test_piece_below_an_equal_one(self):
        self.assertEqual([Heap(demo(), [X, X]).top(), Heap(demo(), [X, Y]).top()], [[X], [Y]])
        self.assertEqual(Heap(chain(), [("v", (0, 1)), ("z", (1, 0)), ("w", (0, 1))]).top(),
                         [("z", (1, 0)), ("w", (0, 1))])

    def test_text(self):
        for problem, history in cases(60, 54):
            layers = Heap(problem, history).layers()
            text = " | ".join([" ".join([event + ":" + ",".join(map(str, values)) for event, values in layer])
                               for layer in layers])
            self.assertEqual(str(Heap(problem, history)), text)
        self.assertEqual(str(Heap(pair(), [OTHER, ONE, ONE])), "x:1 y:1 | x:1")
        self.assertIsInstance(repr(Heap(pair(), [ONE])), str)

    def test_other_heaps(self):
        heaps = [Heap(demo()), Heap(demo(), [X]), Heap(demo(), [Y]), Heap(demo(), [X, Y]), Heap(demo(), [Y, X]),
                 Heap(demo(), [X, X]), Heap(pair()), Heap(pair(), [ONE, OTHER]), Heap(pair(), [ONE, ONE]),
                 Heap(Problem(demo().variables(), [("x", ["a", "b"], [(0, 0)])]), [X])]
        for at, one in enumerate(heaps):
            for place, other in enumerate(heaps):
                self.assertIs(one == other, at == place)
                self.assertIs(one != other, at != place)

    def test_other_kinds(self):
        for value in without_kind(Heap):
            self.assertIs(Heap(demo()) == value, False)
            self.assertIs(value == Heap(demo()), False)


class Changes(PackageTest):
    def test_one_more_piece(self):
        for problem, history in cases(60, 55):
            heap = Heap(problem, history)
            before = shown(heap)
            for piece in pieces_of(problem):
                found = heap.with_piece(piece)
                self.assertEqual(found, Heap(problem, history + [piece]))
                self.assertIn(piece, found.top())
                self.assertEqual(found.without_top(piece), heap)
            self.assertEqual(shown(heap), before)
        self.assertEqual(str(Heap(demo()).with_piece(piece=X)), "x:0,0")

    def test_without_a_piece_of_the_top(self):
        for problem, history in cases(80, 56):
            heap = Heap(problem, history)
            for piece in heap.top():
                ends = [one[:-1] for one in equivalents(problem, history) if one[-1] == piece]
                found = heap.without_top(piece)
                for one in ends:
                    self.assertEqual(found, Heap(problem, one))
                self.assertGreater(len(ends), 0)
            for piece in pieces_of(problem):
                if piece not in heap.top():
                    self.assert_error(NotFound, "value", piece, heap.without_top, piece)
            self.assertEqual(heap, Heap(problem, history))

    def test_the_piece_that_goes_is_the_last_one(self):
        heap = Heap(demo(), [X, Y, X])
        self.assertEqual([str(heap.without_top(piece=X)), str(heap)], ["x:0,0 | y:1,1", "x:0,0 | y:1,1 | x:0,0"])

    def test_other_pieces_of_the_event(self):
        heap, below = Heap(chain(), [("v", (0, 1)), ("v", (1, 0))]), ("v", (0, 1))
        self.assert_error(NotFound, "value", below, heap.without_top, below)
        self.assertEqual(heap.without_top(("v", (1, 0))).pieces(), [below])

    def test_full_heaps(self):
        full = Heap(demo(), [X] * 240)
        self.assert_number(TooLarge, "count", 241, full.with_piece, Y)
        wrong = ("y", (1, 0))
        self.assert_error(InvalidPieces, "value", wrong, full.with_piece, wrong)
        self.assertEqual(len(full.without_top(X).with_piece(Y)), 240)

    def test_no_pieces(self):
        heap = Heap(demo(), [X, Y])
        for value in all_values() + [("x", (1, 1)), ("x", [0, 0]), ["x", (0, 0)], ("x", (False, 0)), ("a", (0, 0)),
                                     ("y", (True, 1)), ("y", (True, True)), ("x", (0, 0), 0), [X], (X,)]:
            self.assert_error(InvalidPieces, "value", value, heap.with_piece, value)
            self.assert_error(InvalidPieces, "value", value, heap.without_top, value)
        self.assertEqual(heap, Heap(demo(), [X, Y]))

    def test_concatenated(self):
        source = random.Random(57)
        for problem, history in cases(60, 57, length=4):
            more = random_history(source, problem, source.randint(0, 4))
            one, other = Heap(problem, history), Heap(problem, more)
            found = one.concatenated(other)
            for first in equivalents(problem, history):
                for second in equivalents(problem, more):
                    self.assertEqual(found, Heap(problem, first + second))
            self.assertEqual([one, other], [Heap(problem, history), Heap(problem, more)])
        self.assertEqual(str(Heap(demo(), [X]).concatenated(other=Heap(demo(), [Y]))), "x:0,0 | y:1,1")

    def test_concatenated_with_equal_problem(self):
        self.assertEqual(Heap(long_names(), [LOW]).concatenated(Heap(long_names(), [BOTH])),
                         Heap(long_names(), [LOW, BOTH]))

    def test_too_many_pieces(self):
        half = Heap(demo(), [X] * 120)
        self.assertEqual(len(half.concatenated(half)), 240)
        self.assert_number(TooLarge, "count", 241, half.concatenated, half.with_piece(Y))
        self.assert_number(TooLarge, "count", 480, Heap(demo(), [X] * 240).concatenated, Heap(demo(), [Y] * 240))
        other = Heap(pair(), [ONE] * 240)
        self.assert_error(Mismatch, "value", other, half.concatenated, other)

    def test_reversed(self):
        for problem, history in cases(60, 58, length=5):
            found = Heap(problem, history).reversed_heap()
            for one in equivalents(problem, history):
                self.assertEqual(found, Heap(problem, one[::-1]))
            self.assertEqual(found.reversed_heap(), Heap(problem, history))
            self.assertEqual(set(found.bottom()), set(Heap(problem, history).top()))

    def test_no_heap(self):
        for value in without_kind(Heap):
            self.assert_error(InvalidHeap, "value", value, Heap(demo()).concatenated, value)
            self.assert_error(InvalidHeap, "value", value, Heap(demo()).is_lower_part_of, value)

    def test_heaps_of_other_problems(self):
        for problem in (pair(), long_names(), Problem(demo().variables()), Problem(demo().variables(), [
                ("y", ["b", "c"], [(1, 1)]), ("x", ["a", "b"], [(0, 0)])])):
            other = Heap(problem)
            self.assert_error(Mismatch, "value", other, Heap(demo()).concatenated, other)
            self.assert_error(Mismatch, "value", other, Heap(demo(), [X]).is_lower_part_of, other)


class Orders(PackageTest):
    def test_example(self):
        self.assertEqual(Heap(pair(), [OTHER, ONE]).orders(), [[ONE, OTHER], [OTHER, ONE]])

    def test_by_the_definition(self):
        for problem, history in cases(150, 59):
            heap, expected = Heap(problem, history), ordered(problem, equivalents(problem, history))
            if len(expected) > 500:
                self.assert_number(TooLarge, "count", 501, heap.orders)
                continue
            found = heap.orders()
            self.assertEqual(found, expected)
            self.assertEqual({type(one) for one in found}, {list})
            for one in found:
                self.assertIs(heap.is_order(one), True)
                self.assertIs(heap.is_order(value=tuple(one)), True)

    def test_order_of_the_events(self):
        problem = Problem([("a", 2), ("b", 2), ("c", 2)], [(name, [name], [(0,), (1,)]) for name in "cab"])
        history = [("b", (0,)), ("a", (1,)), ("c", (1,)), ("c", (0,))]
        found = Heap(problem, history).orders()
        self.assertEqual(["".join([event for event, _ in one]) for one in found],
                         ["ccab", "ccba", "cacb", "cabc", "cbca", "cbac", "accb", "acbc", "abcc", "bcca", "bcac", "bacc"])
        self.assertEqual(found[0], [("c", (1,)), ("c", (0,)), ("a", (1,)), ("b", (0,))])

    def test_empty_heap(self):
        self.assertEqual([Heap(demo()).orders(), Heap(demo()).orders(limit=1)], [[[]], [[]]])

    def test_limits(self):
        heap = Heap(pair(), [ONE, OTHER, ONE, OTHER])
        for limit in (6, 7, 500):
            self.assertEqual(len(heap.orders(limit=limit)), 6)
        for limit in (1, 2, 5):
            self.assert_number(TooLarge, "count", limit + 1, heap.orders, limit=limit)
        for limit in non_integers_from(1, 500):
            self.assert_error(InvalidInteger, "value", limit, heap.orders, limit=limit)
        self.assertEqual(Heap(demo(), [X, Y, X]).orders(limit=1), [[X, Y, X]])

    def test_most_histories(self):
        self.assertEqual(len(Heap(pair(), [ONE] * 30 + [OTHER] * 2).orders(limit=496)), 496)
        self.assertEqual(len(Heap(pair(), [ONE] * 239 + [OTHER]).orders()), 240)
        for history in ([ONE] * 31 + [OTHER] * 2, [ONE, OTHER] * 120):
            self.assert_number(TooLarge, "count", 501, Heap(pair(), history).orders)
        self.assert_number(TooLarge, "count", 496, Heap(pair(), [ONE] * 30 + [OTHER] * 2).orders, limit=495)

    def test_other_histories(self):
        source = random.Random(60)
        for problem, history in cases(80, 60, length=5):
            heap, alike = Heap(problem, history), equivalents(problem, history)
            for _ in range(10):
                one = source.sample(history, len(history))
                self.assertIs(heap.is_order(one), tuple(one) in alike)
                other = random_history(source, problem, len(history))
                self.assertIs(heap.is_order(other), tuple(other) in alike)
            if history:
                self.assertIs(heap.is_order(history[:-1]), False)
                self.assertIs(heap.is_order(history + history[:1]), False)

    def test_no_orders(self):
        heap = Heap(demo(), [X, Y])
        for value in all_values():
            self.assertIs(heap.is_order(value), False)
            self.assertIs(heap.is_order([X, value]), False)
            self.assertIs(heap.is_order((value, Y)), False)
            self.assertIs(Heap(demo()).is_order(value), value in ([], ()))
        for value in ([X, ("y", (True, 1))], [("x", (0, False)), Y], [X, ["y", (1, 1)]], [X, ("y", [1, 1])], [Y, X],
                      [X, Y, X], [X], [X, Y, None], {0: X, 1: Y}, [[X, Y]], [X] * 250, "x:0,0 | y:1,1", Heap(demo(), [X, Y])):
            self.assertIs(heap.is_order(value), False)
        self.assertIs(Heap(demo(), [X] * 240).is_order([X] * 240), True)
        self.assertIs(Heap(demo(), [X] * 240).is_order([X] * 250), False)


class Parts(PackageTest):
    def test_dropped_values(self):
        for problem, history in cases(100, 61):
            heap = Heap(problem, history)
            for name, _ in problem.variables():
                for one in list(equivalents(problem, history))[:20]:
                    expected = [values[problem.scope(event).index(name)] for event, values in one
                                if name in problem.scope(event)]
                    self.assertEqual(heap.dropped(name), expected)

    def test_dropped_values_of_examples(self):
        heap = Heap(demo(), [X, Y, X])
        self.assertEqual([heap.dropped("a"), heap.dropped("b"), heap.dropped(variable="c")], [[0, 0], [0, 1, 0], [1]])
        self.assertEqual(Heap(long_names(), [BOTH, LOW]).dropped("left"), [1, 1])
        self.assertEqual(Heap(long_names(), [BOTH, LOW]).dropped("right"), [2])

    def test_unknown_variables(self):
        for value in all_values() + ["x"]:
            if value != "a":
                self.assert_error(UnknownVariable, "name", value, Heap(demo(), [X]).dropped, value)
        name = fresh("both")
        self.assert_error(UnknownVariable, "name", name, Heap(long_names()).dropped, name)

    def test_lower_parts_by_the_definition(self):
        source, seen = random.Random(62), []
        for problem, history in cases(120, 62, length=5):
            alike = equivalents(problem, history)
            for _ in range(8):
                part = random_history(source, problem, source.randint(0, 3))
                if source.random() < 0.5:
                    part = list(source.choice(ordered(problem, alike))[:source.randint(0, 5)])
                starts = {one[:len(part)] for one in alike}
                expected = bool(starts & equivalents(problem, part))
                seen.append(expected)
                self.assertIs(Heap(problem, part).is_lower_part_of(Heap(problem, history)), expected)
        self.assertGreater(min(seen.count(True), seen.count(False)), 100)

    def test_lower_parts(self):
        heap = Heap(demo(), [X, Y, X])
        for pieces, expected in [([], True), ([X], True), ([X, Y], True), ([X, Y, X], True), ([Y], False),
                                 ([X, X], False), ([X, Y, X, X], False), ([Y, X], False)]:
            self.assertIs(Heap(demo(), pieces).is_lower_part_of(other=heap), expected)
        self.assertIs(heap.is_lower_part_of(Heap(demo())), False)
        self.assertIs(Heap(demo()).is_lower_part_of(Heap(demo())), True)

    def test_pieces_of_one_event_are_told_apart(self):
        below, above = ("v", (0, 1)), ("v", (1, 0))
        self.assertIs(Heap(chain(), [above]).is_lower_part_of(Heap(chain(), [below, above])), False)
        self.assertIs(Heap(chain(), [below]).is_lower_part_of(Heap(chain(), [below, above])), True)


class OfSamplers(PackageTest):
    def test_heap_of_the_history(self):
        source = random.Random(63)
        for problem in problems(60, 63):
            sampler = Sampler(problem, random_tapes(source, problem))
            self.assertEqual(heap_of(sampler), Heap(problem))
            run_sampler(sampler, round_robin(source.randrange(5)))
            heap, copy = heap_of(sampler=sampler), sampler.copied()
            self.assertEqual(heap, Heap(problem, sampler.history()))
            self.assertEqual(sampler, copy)
            for name, _ in problem.variables():
                self.assertEqual(heap.dropped(name), sampler.dropped(name))

    def test_later_steps(self):
        sampler = Sampler(demo(), {"a": [0, 1], "b": [0, 1, 0], "c": [1, 0]})
        sampler.resample("x")
        heap = heap_of(sampler)
        sampler.resample("y")
        self.assertEqual([heap, heap_of(sampler)], [Heap(demo(), [X]), Heap(demo(), [X, Y])])

    def test_no_sampler(self):
        for value in without_kind(Sampler):
            self.assert_error(InvalidSampler, "value", value, heap_of, value)


if __name__ == "__main__":
    unittest.main()
