import random
import unittest

from resampler.errors import (InvalidAssignment, InvalidHeap, InvalidProblem, InvalidSampler, InvalidTapes, Mismatch,
                              TooLarge)
from resampler.heaps import Heap, heap_of
from resampler.problems import Problem
from resampler.replay import build_sampler, check_run, consumed_values, first_difference, rewind_sampler
from resampler.sampler import Sampler, choose_last, round_robin, run_sampler
from tests.samples import all_values, non_lists, without_kind
from tests.support import (VARIABLE_NAMES, PackageTest, all_assignments, demo, happens, long_names, names_of, pair,
                           pieces_of, problems, random_history, random_tapes, values_of_scope)

X, Y = ("x", (0, 0)), ("y", (1, 1))
TAPES = {"a": [0, 1], "b": [0, 1, 0], "c": [1, 0]}


def heap_of_three():
    return Heap(demo(), [X, Y, X])


def eight_variables():
    """Return a problem with an event for each of eight variables."""
    return Problem([(name, 2) for name in VARIABLE_NAMES], [(name, [name], [(0,), (1,)]) for name in VARIABLE_NAMES])


def sampler_with_steps(source, problem):
    sampler = Sampler(problem, random_tapes(source, problem, longest=8))
    run_sampler(sampler, source.choice, max_steps=source.randrange(9))
    return sampler


def not_assignments(problem):
    """Return values of every kind that are no assignments of the demo problem."""
    first = all_assignments(problem)[1]
    return all_values() + [list(first), first + (0,), first[:-1], first[:-1] + (True,), (False,) + first[1:],
                           first[:-1] + (2,), first[:-1] + (-1,), (first,), {0: first}, first[:-1] + (None,)]


class ConsumedValues(PackageTest):
    def test_example(self):
        expected = {"a": [0, 0, 1], "b": [0, 1, 0, 0], "c": [1, 0]}
        found = consumed_values(heap_of_three(), (1, 0, 0))
        self.assertEqual(found, expected)
        self.assertEqual(list(found), ["a", "b", "c"])
        self.assertEqual(consumed_values(assignment=(1, 0, 0), heap=heap_of_three()), expected)

    def test_dropped_values_and_the_assignment(self):
        source = random.Random(60)
        for problem in problems(80, 60):
            heap = Heap(problem, random_history(source, problem, source.randint(0, 9)))
            for assignment in all_assignments(problem)[:9]:
                found = consumed_values(heap, assignment)
                self.assertEqual(list(found.items()), [(name, heap.dropped(name) + [value])
                                                       for name, value in zip(names_of(problem), assignment)])

    def test_values_of_samplers(self):
        source = random.Random(61)
        for problem in problems(120, 61):
            sampler = sampler_with_steps(source, problem)
            found = consumed_values(heap_of(sampler), sampler.assignment())
            for name, value in zip(names_of(problem), sampler.assignment()):
                self.assertEqual(found[name], sampler.dropped(name) + [value])
                tape = sampler.dropped(name) + [value] + sampler.remaining(name)
                self.assertEqual(found[name], tape[:len(found[name])])

    def test_new_lists(self):
        self.assert_new_lists(lambda: consumed_values(heap_of_three(), (1, 0, 0)))

    def test_no_heap(self):
        for value in without_kind(Heap):
            self.assert_error(InvalidHeap, "value", value, consumed_values, value, (0, 0, 0))
            self.assert_error(InvalidHeap, "value", value, consumed_values, value, 5)

    def test_no_assignment(self):
        for value in not_assignments(demo()):
            self.assert_error(InvalidAssignment, "value", value, consumed_values, Heap(demo()), value)
        wrong = (0, 0, 0)
        self.assert_error(InvalidAssignment, "value", wrong, consumed_values, Heap(pair()), wrong)


class BuildSampler(PackageTest):
    def test_example(self):
        sampler = build_sampler(heap_of_three(), (1, 0, 0))
        self.assertEqual(sampler, Sampler(demo(), {"a": [0, 0, 1], "b": [0, 1, 0, 0], "c": [1, 0]}))
        self.assertEqual([run_sampler(sampler), str(heap_of(sampler)), sampler.assignment()],
                         [3, "x:0,0 | y:1,1 | x:0,0", (1, 0, 0)])

    def test_tapes(self):
        source = random.Random(62)
        for problem in problems(80, 62):
            heap = Heap(problem, random_history(source, problem, source.randint(0, 6)))
            assignment = source.choice(all_assignments(problem))
            more = {name: tape for name, tape in random_tapes(source, problem).items() if source.random() < 0.6}
            consumed = consumed_values(heap, assignment)
            found = build_sampler(heap, assignment, extra=more)
            self.assertEqual(found, Sampler(problem, {name: consumed[name] + more.get(name, []) for name in consumed}))
            self.assertEqual([len(found), found.history()], [0, []])
            self.assertEqual(build_sampler(heap, assignment), Sampler(problem, consumed))

    def test_no_extra_values(self):
        expected = build_sampler(heap_of_three(), (1, 0, 0))
        for extra in (None, {}, {"b": []}, {"c": (), "a": []}, {"a": [], "b": [], "c": []}):
            self.assertEqual(build_sampler(heap_of_three(), (1, 0, 0), extra=extra), expected)

    def test_extra_values(self):
        expected = Sampler(demo(), {"a": [0, 0, 1, 1, 0], "b": [0, 1, 0, 0], "c": [1, 0, 1]})
        for extra in ({"a": [1, 0], "c": [1]}, {"c": (1,), "a": (1, 0)}, {"c": [1], "b": [], "a": [1, 0]}):
            self.assertEqual(build_sampler(extra=extra, assignment=(1, 0, 0), heap=heap_of_three()), expected)
        with self.assertRaises(TypeError):
            build_sampler(heap_of_three(), (1, 0, 0), {})

    def test_assignment_need_not_be_valid(self):
        sampler = build_sampler(Heap(demo(), [Y]), (0, 0, 1))
        self.assertEqual([sampler.assignment(), sampler.ready()], [(0, 1, 1), ["y"]])
        sampler.resample("y")
        self.assertEqual([sampler.assignment(), sampler.is_stuck()], [(0, 0, 1), True])

    def test_later_changes_of_the_arguments(self):
        extra = {"a": [1, 0], "c": [1]}
        sampler = build_sampler(heap_of_three(), (1, 0, 0), extra=extra)
        self.assertEqual(extra, {"a": [1, 0], "c": [1]})
        extra["a"].append(1)
        extra["b"] = [1]
        self.assertEqual(sampler, build_sampler(heap_of_three(), (1, 0, 0), extra={"a": [1, 0], "c": [1]}))

    def test_no_extra_tapes(self):
        wrong = [{"d": [0]}, {"x": []}, {"a": [2]}, {"a": [-1]}, {"a": [True]}, {"a": [0, False]}, {"a": ["0"]},
                 {"a": 0}, {"a": "01"}, {"a": None}, {"a": {}}, {"a": {0: 1}}, {0: [0]}, {"a": [0], 1: [0]}, {"a": [[0]]},
                 {"a": [0] * 41}, {"a": (1,) * 50}, {"a": [0], "b": [0], "c": [0], "d": [0]}, [("a", [0])], ["a"],
                 {"": []}, {"A": [0]}, {"a": [0], "c": [0, None]}, {"a": [Sampler(demo(), TAPES)]}]
        for extra in [value for value in all_values() if value is not None and value != {}] + wrong:
            self.assert_error(InvalidTapes, "value", extra, build_sampler, heap_of_three(), (1, 0, 0), extra=extra)

    def test_length_of_a_tape(self):
        problem = Problem([("a", 2), ("b", 2)], [("x", ["a"], [(1,)]), ("y", ["b"], [(1,)])])
        self.assertEqual(len(build_sampler(Heap(problem, [("x", (1,))] * 39), (0, 0)).remaining("a")), 39)
        heap = Heap(problem, [("x", (1,))] * 40)
        self.assert_number(TooLarge, "count", 41, build_sampler, heap, (0, 0))
        self.assert_number(TooLarge, "count", 43, build_sampler, heap, (0, 0), extra={"a": [0, 0], "b": [0] * 40})
        self.assert_number(TooLarge, "count", 42, build_sampler, Heap(problem, [("y", (1,))] * 40), (0, 0), extra={"b": [0]})
        self.assert_number(TooLarge, "count", 41, build_sampler, Heap(problem), (0, 0), extra={"b": [0] * 40})
        self.assertEqual(len(build_sampler(Heap(problem), (0, 0), extra={"b": [0] * 39}).remaining("b")), 39)
        self.assert_number(TooLarge, "count", 241, build_sampler, Heap(problem, [("x", (1,))] * 240), (0, 0))
        self.assert_number(TooLarge, "count", 45, build_sampler,
                           Heap(problem, [("y", (1,))] * 50 + [("x", (1,))] * 44), (0, 0))

    def test_number_of_values(self):
        problem = eight_variables()
        full = {name: [0] * 24 for name in VARIABLE_NAMES}
        self.assertEqual(build_sampler(Heap(problem), (1,) * 8, extra=full).remaining("h"), [0] * 24)
        more = {**full, "c": [0] * 25}
        self.assert_number(TooLarge, "count", 201, build_sampler, Heap(problem), (1,) * 8, extra=more)
        heap = Heap(problem, [("h", (1,))])
        self.assert_number(TooLarge, "count", 201, build_sampler, heap, (1,) * 8, extra=full)
        wide = {name: [1] * 39 for name in VARIABLE_NAMES}
        self.assert_number(TooLarge, "count", 320, build_sampler, Heap(problem), (1,) * 8, extra=wide)
        self.assert_number(TooLarge, "count", 41, build_sampler, heap, (1,) * 8, extra=wide)

    def test_order_of_checks(self):
        long, extra, wrong = Heap(demo(), [X] * 100), {"a": [2]}, (0, 0)
        self.assert_error(InvalidHeap, "value", extra, build_sampler, extra, wrong, extra=extra)
        self.assert_error(InvalidAssignment, "value", wrong, build_sampler, long, wrong, extra=extra)
        self.assert_error(InvalidTapes, "value", extra, build_sampler, long, (0, 0, 0), extra=extra)

    def test_no_heap(self):
        for value in without_kind(Heap):
            self.assert_error(InvalidHeap, "value", value, build_sampler, value, (0, 0, 0))

    def test_no_assignment(self):
        for value in not_assignments(demo()):
            self.assert_error(InvalidAssignment, "value", value, build_sampler, Heap(demo()), value)


def can_perform(problem, tapes, history, assignment):
    """Tell by the definition whether the steps of a history can be made and end in an assignment."""
    rest = {name: list(tape) for name, tape in tapes.items()}
    for event, values in history:
        current = tuple([rest[name][0] for name in names_of(problem)])
        if not happens(problem, event, current) or values_of_scope(problem, event, current) != values:
            return False
        if min([len(rest[name]) for name in problem.scope(event)]) == 1:
            return False
        for name in problem.scope(event):
            del rest[name][0]
    return tuple([rest[name][0] for name in names_of(problem)]) == assignment


class CheckRun(PackageTest):
    def test_example(self):
        self.assertIs(check_run(demo(), TAPES, [X], (1, 1, 1)), True)
        self.assertIs(check_run(assignment=(1, 1, 1), history=[X], tapes=TAPES, problem=demo()), True)

    def test_runs_of_samplers(self):
        source = random.Random(63)
        for problem in problems(120, 63):
            tapes = random_tapes(source, problem, longest=8)
            sampler = Sampler(problem, tapes)
            run_sampler(sampler, source.choice)
            self.assertIs(check_run(problem, tapes, sampler.history(), sampler.assignment()), True)
            self.assertIs(check_run(problem, tapes, tuple(sampler.history()), sampler.assignment()), True)
            for order in heap_of(sampler).orders()[:5]:
                self.assertIs(check_run(problem, tapes, order, sampler.assignment()), True)
            while len(sampler):
                sampler.undo()
                self.assertIs(check_run(problem, tapes, sampler.history(), sampler.assignment()), True)

    def test_by_the_definition(self):
        source, seen = random.Random(64), []
        for problem in problems(250, 64, variables=3, size=2, events=3):
            tapes, pieces = random_tapes(source, problem, longest=4), pieces_of(problem)
            sampler = Sampler(problem, tapes)
            run_sampler(sampler, source.choice, max_steps=source.randrange(4))
            for history in [random_history(source, problem, source.randint(0, 3)) for _ in range(4)] + [
                    sampler.history(), sampler.history() + pieces[:1], sampler.history()[:-1] + pieces[-1:]]:
                for assignment in all_assignments(problem):
                    expected = can_perform(problem, tapes, history, assignment)
                    seen.append(expected)
                    self.assertIs(check_run(problem, tapes, history, assignment), expected)
        self.assertGreater(min(seen.count(True), seen.count(False)), 300)

    def test_steps_that_cannot_be_made(self):
        self.assertIs(check_run(demo(), TAPES, [X, Y], (1, 0, 0)), True)
        for history in ([Y, X], [X, X], [X, Y, X], [Y], [X, Y, Y]):
            self.assertIs(check_run(demo(), TAPES, history, (1, 0, 0)), False)
        # The event occurs, but a tape has no further value.
        self.assertIs(check_run(demo(), {"a": [0, 1], "b": [0], "c": [1]}, [X], (1, 0, 1)), False)
        # The event is ready, but with another of its bad tuples.
        problem = Problem([("a", 2)], [("x", ["a"], [(0,), (1,)])])
        self.assertIs(check_run(problem, {"a": [0, 1]}, [("x", (1,))], (1,)), False)
        self.assertIs(check_run(problem, {"a": [0, 1]}, [("x", (0,))], (1,)), True)

    def test_no_history(self):
        for value in all_values():
            expected = value in ([], ()) if isinstance(value, (list, tuple)) else False
            self.assertIs(check_run(demo(), TAPES, value, (0, 0, 1)), expected)
            for history in ([value], [X, value], (value, X), [("x", value)], [(value, (0, 0))], [X, value, Y]):
                for assignment in ((0, 0, 1), (1, 1, 1), value):
                    self.assertIs(check_run(demo(), TAPES, history, assignment), False)
        for history in ([["x", (0, 0)]], [("x", [0, 0])], [("x", (False, 0))], [("x", (0, False))], [("x", (0, 0), 0)],
                        [("x",)], [("y", (True, True))], [[X]], {0: X}, "x:0,0", X, [("x", (0, 0, 0))]):
            self.assertIs(check_run(demo(), TAPES, history, (1, 1, 1)), False)

    def test_any_length(self):
        problem = eight_variables()
        tapes = {name: [1] * 25 for name in VARIABLE_NAMES}
        history = [(name, (1,)) for name in VARIABLE_NAMES] * 24
        self.assertIs(check_run(problem, tapes, history, (1,) * 8), True)
        for more in (1, 49, 300, 5000):
            self.assertIs(check_run(problem, tapes, history + [("a", (1,))] * more, (1,) * 8), False)
        self.assertIs(check_run(problem, tapes, history * 50 + [None], (1,) * 8), False)

    def test_no_assignment(self):
        for value in not_assignments(demo()):
            self.assertIs(check_run(demo(), TAPES, [X], value), False)
        for value in ([1, 1, 1], (True, 1, 1), (1, 1, True), (1, 1), (1, 1, 1, 1), (1, 1, 0), "111", (1.0, 1, 1)):
            self.assertIs(check_run(demo(), TAPES, [X], value), False)

    def test_arguments_stay_as_they_are(self):
        tapes, history = {name: list(tape) for name, tape in TAPES.items()}, [X, Y]
        check_run(demo(), tapes, history, (1, 0, 0))
        self.assertEqual([tapes, history], [TAPES, [X, Y]])

    def test_no_problem_and_no_tapes(self):
        for value in without_kind(Problem):
            self.assert_error(InvalidProblem, "value", value, check_run, value, TAPES, [], (0, 0, 0))
            self.assert_error(InvalidProblem, "value", value, check_run, value, 5, None, None)
        for value in all_values() + [{"a": [0], "b": [0]}, {"a": [2], "b": [0], "c": [0]}, {"a": [], "b": [0], "c": [0]}]:
            self.assert_error(InvalidTapes, "value", value, check_run, demo(), value, None, None)
        tapes = {name: [0] * 40 for name in VARIABLE_NAMES}
        self.assert_number(TooLarge, "count", 320, check_run, eight_variables(), tapes, None, None)


class RewindSampler(PackageTest):
    def test_before_the_first_step(self):
        source = random.Random(65)
        for problem in problems(80, 65):
            tapes = random_tapes(source, problem, longest=8)
            sampler = Sampler(problem, tapes)
            self.assertEqual(rewind_sampler(sampler), sampler)
            run_sampler(sampler, source.choice)
            before = sampler.copied()
            self.assertEqual(rewind_sampler(sampler), Sampler(problem, tapes))
            self.assertEqual(sampler, before)
            self.assertEqual(rewind_sampler(rewind_sampler(sampler=sampler)), Sampler(problem, tapes))

    def test_copies_are_independent(self):
        sampler = Sampler(demo(), TAPES)
        run_sampler(sampler)
        found = rewind_sampler(sampler)
        run_sampler(found, max_steps=1)
        self.assertEqual([len(sampler), len(found), len(rewind_sampler(sampler))], [2, 1, 0])

    def test_during_a_run(self):
        sampler, found = Sampler(demo(), TAPES), []

        def choose(events):
            found.append(rewind_sampler(sampler))
            run_sampler(found[-1])
            return events[0]

        self.assertEqual(run_sampler(sampler, choose), 2)
        self.assertEqual(found, [sampler, sampler])

    def test_no_sampler(self):
        for value in without_kind(Sampler):
            self.assert_error(InvalidSampler, "value", value, rewind_sampler, value)


class FirstDifference(PackageTest):
    def test_example(self):
        sampler = build_sampler(heap_of_three(), (1, 0, 0))
        run_sampler(sampler)
        self.assertEqual(first_difference(sampler, rewind_sampler(sampler)), ("history", 0))
        self.assertEqual(first_difference(other=rewind_sampler(sampler), one=sampler), ("history", 0))

    def test_by_the_definition(self):
        source, seen = random.Random(66), []
        for problem in problems(60, 66, variables=3, size=2, events=3):
            samplers = [sampler_with_steps(source, problem) for _ in range(6)]
            samplers.extend([sampler.copied() for sampler in samplers])
            for one in samplers:
                for other in samplers:
                    found = first_difference(one, other)
                    self.assertEqual(found, self.by_definition(one, other))
                    self.assertIs(found is None, one == other)
                    seen.append(None if found is None else found[0])
        self.assertGreater(min([seen.count(kind) for kind in (None, "history", "current", "remaining")]), 30)

    def by_definition(self, one, other):
        names = names_of(one.problem())
        if one.history() != other.history():
            shorter = min(len(one), len(other))
            return ("history", ([at for at in range(shorter) if one.history()[at] != other.history()[at]] + [shorter])[0])
        for at, name in enumerate(names):
            if one.assignment()[at] != other.assignment()[at]:
                return "current", name
        for name in names:
            if one.remaining(name) != other.remaining(name):
                return "remaining", name
        return None

    def test_each_kind(self):
        problem = Problem([("a", 2), ("b", 2)], [("x", ["a"], [(1,), (0,)]), ("y", ["b"], [(1,)])])
        first = Sampler(problem, {"a": [1, 1, 1], "b": [1, 1, 0]})
        for tapes, expected in [({"a": [1, 1, 1], "b": [1, 1, 0]}, None),
                                ({"a": [1, 1, 1], "b": [0, 1, 0]}, ("current", "b")),
                                ({"a": [0, 1, 1], "b": [0, 1, 0]}, ("current", "a")),
                                ({"a": [1, 0], "b": [0, 1, 0]}, ("current", "b")),
                                ({"a": [1, 1, 1, 1], "b": [1]}, ("remaining", "a")),
                                ({"a": [1, 1, 1], "b": [1, 0, 0]}, ("remaining", "b"))]:
            self.assertEqual(first_difference(first, Sampler(problem, tapes)), expected)
            self.assertEqual(first_difference(Sampler(problem, tapes), first), expected)
        one, other = first.copied(), first.copied()
        run_sampler(one, max_steps=3)
        run_sampler(other, choose_last, max_steps=2)
        self.assertEqual(first_difference(one, other), ("history", 0))
        other = first.copied()
        run_sampler(other, max_steps=2)
        self.assertEqual([first_difference(one, other), first_difference(other, one)], [("history", 2)] * 2)
        other.resample("y")
        self.assertEqual(first_difference(one, one), None)
        self.assertEqual([first_difference(one, other), len(one), len(other)], [None, 3, 3])

    def test_equal_problems_that_are_other_objects(self):
        tapes = {"left": [1, 0], "right": [2, 1, 0]}
        self.assertIsNone(first_difference(Sampler(long_names(), tapes), Sampler(long_names(), tapes)))

    def test_samplers_of_other_problems(self):
        one, other = Sampler(demo(), TAPES), Sampler(Problem(demo().variables()), TAPES)
        self.assert_error(Mismatch, "value", other, first_difference, one, other)
        self.assert_error(Mismatch, "value", one, first_difference, other, one)

    def test_no_samplers(self):
        sampler = Sampler(demo(), TAPES)
        for value in without_kind(Sampler):
            self.assert_error(InvalidSampler, "value", value, first_difference, value, sampler)
            self.assert_error(InvalidSampler, "value", value, first_difference, sampler, value)
            self.assert_error(InvalidSampler, "value", value, first_difference, value, non_lists()[0])

    def test_runs_with_other_choices(self):
        problem = Problem([("a", 2), ("b", 2)], [("x", ["a"], [(1,)]), ("y", ["b"], [(1,)])])
        one = Sampler(problem, {"a": [1, 1, 0], "b": [1, 1, 0]})
        other = one.copied()
        run_sampler(one)
        run_sampler(other, round_robin())
        self.assertEqual(first_difference(one, other), ("history", 1))


if __name__ == "__main__":
    unittest.main()
