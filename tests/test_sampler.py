import random
import unittest

from resampler.errors import (InvalidChoice, InvalidInteger, InvalidProblem, InvalidSampler, InvalidTapes, NotOccurring,
                              NothingToUndo, SamplerBusy, TapeExhausted, TooLarge, UnknownEvent, UnknownVariable)
from resampler.problems import Problem
from resampler.sampler import Sampler, choose_last, round_robin, run_sampler
from tests.samples import all_values, non_integers, non_integers_from, non_lists, without_kind
from tests.support import (VARIABLE_NAMES, PackageTest, demo, fresh, happens, long_names, names_of, pair, problems,
                           random_tapes, values_of_scope)

TAPES = {"a": [0, 1], "b": [0, 1, 0], "c": [1, 0]}


def demo_sampler():
    return Sampler(demo(), TAPES)


def parts(sampler):
    """Return all that a sampler shows of itself."""
    names = names_of(sampler.problem())
    return [sampler.assignment(), [sampler.remaining(name) for name in names],
            [sampler.dropped(name) for name in names], sampler.history(), len(sampler), sampler.occurring(),
            sampler.ready(), sampler.is_valid(), sampler.is_stuck()]


def four_events():
    """Return a problem whose four events may all be ready at once, in any order."""
    return Problem([(name, 2) for name in "abcd"], [(name, [name], [(1,)]) for name in "dbca"])


def four_tapes(length=6):
    return {name: [1] * length for name in "abcd"}


class Model:
    """A sampler in the words of the document: a list of values for each variable."""

    def __init__(self, problem, tapes):
        self.problem, self.history = problem, []
        self.dropped = {name: [] for name in tapes}
        self.rest = {name: list(tape) for name, tape in tapes.items()}

    def assignment(self):
        return tuple([self.rest[name][0] for name in names_of(self.problem)])

    def occurring(self):
        return [event for event in self.problem.events() if happens(self.problem, event, self.assignment())]

    def exhausted(self, event):
        return [name for name in self.problem.scope(event) if len(self.rest[name]) == 1]

    def ready(self):
        return [event for event in self.occurring() if not self.exhausted(event)]

    def resample(self, event):
        values = values_of_scope(self.problem, event, self.assignment())
        for name in self.problem.scope(event):
            self.dropped[name].append(self.rest[name].pop(0))
        self.history.append((event, values))
        return values

    def undo(self):
        piece = self.history.pop()
        for name in self.problem.scope(piece[0]):
            self.rest[name].insert(0, self.dropped[name].pop())
        return piece

    def parts(self):
        names = names_of(self.problem)
        return [self.assignment(), [self.rest[name][1:] for name in names], [self.dropped[name] for name in names],
                self.history, len(self.history), self.occurring(), self.ready(), not self.occurring(),
                bool(self.occurring()) and not self.ready()]


class Building(PackageTest):
    def test_without_steps(self):
        sampler = demo_sampler()
        self.assertEqual(parts(sampler), [(0, 0, 1), [[1], [1, 0], [0]], [[], [], []], [], 0, ["x"], ["x"], False, False])
        self.assertEqual(sampler.problem(), demo())

    def test_order_of_keys(self):
        for names in ("abc", "cba", "bca"):
            sampler = Sampler(demo(), {name: TAPES[name] for name in names})
            self.assertEqual(parts(sampler), parts(demo_sampler()))
            self.assertEqual(sampler, demo_sampler())

    def test_tuples_for_tapes(self):
        sampler = Sampler(tapes={name: tuple(tape) for name, tape in TAPES.items()}, problem=demo())
        self.assertEqual(sampler, demo_sampler())
        self.assertIs(type(sampler.remaining("b")), list)

    def test_limits(self):
        problem = Problem([("a", 6), ("b", 1)])
        for length in (1, 2, 39, 40):
            sampler = Sampler(problem, {"a": [5] * length, "b": [0]})
            self.assertEqual([sampler.assignment(), sampler.remaining("a")], [(5, 0), [5] * (length - 1)])
        eight = Problem([(name, 2) for name in VARIABLE_NAMES])
        for lengths in ([25] * 8, [40, 40, 40, 40, 37, 1, 1, 1]):
            tapes = {name: [1] * length for name, length in zip(VARIABLE_NAMES, lengths)}
            self.assertEqual(Sampler(eight, tapes).assignment(), (1,) * 8)

    def test_too_many_values(self):
        eight = Problem([(name, 2) for name in VARIABLE_NAMES])
        for lengths, count in [([25] * 7 + [26], 201), ([40] * 5 + [1, 1, 1], 203), ([40] * 8, 320)]:
            tapes = {name: [1] * length for name, length in zip(VARIABLE_NAMES, lengths)}
            self.assert_number(TooLarge, "count", count, Sampler, eight, tapes)
        tapes["h"] = [1] * 39 + [2]
        self.assert_error(InvalidTapes, "value", tapes, Sampler, eight, tapes)

    def test_later_changes_of_the_arguments(self):
        tapes = {name: list(tape) for name, tape in TAPES.items()}
        sampler = Sampler(demo(), tapes)
        tapes["a"].append(0)
        tapes["b"][0] = 1
        del tapes["c"]
        self.assertEqual(sampler, demo_sampler())
        run_sampler(sampler)
        self.assertEqual(tapes, {"a": [0, 1, 0], "b": [1, 1, 0]})

    def test_no_problem(self):
        for value in without_kind(Problem):
            self.assert_error(InvalidProblem, "value", value, Sampler, value, TAPES)
            self.assert_error(InvalidProblem, "value", value, Sampler, value, None)

    def refused(self, tapes):
        self.assert_error(InvalidTapes, "value", tapes, Sampler, long_names(), tapes)

    def test_other_values(self):
        for value in all_values() + [[("left", [0]), ("right", [0])], [[0], [0]]]:
            self.refused(value)

    def test_keys(self):
        for tapes in ({"left": [0]}, {"left": [0], "right": [0], "both": [0]}, {"left": [0], "low": [0]},
                      {"left": [0], "right": [0], 1: [0]}, {0: [0], 1: [0]}):
            self.refused(tapes)

    def test_tapes(self):
        for value in non_lists() + [[], (), [0] * 41, {0: 0}, "0"]:
            self.refused({"left": [0], "right": value})
            self.refused({"left": value, "right": [0]})

    def test_values(self):
        for value in non_integers_from(0, 1) + [[0], (0,)]:
            for tape in ([value], [0, value], [0] * 39 + [value], (value, 1)):
                self.refused({"left": tape, "right": [0]})
        self.refused({"right": [0, 3], "left": [0]})
        self.assertEqual(Sampler(long_names(), {"right": [2, 0], "left": [1]}).assignment(), (1, 2))


class Reading(PackageTest):
    def test_example(self):
        sampler = demo_sampler()
        self.assertEqual([sampler.assignment(), sampler.remaining("b"), sampler.dropped("b")], [(0, 0, 1), [1, 0], []])
        self.assertEqual([sampler.resample("x"), sampler.assignment(), sampler.dropped("b")], [(0, 0), (1, 1, 1), [0]])

    def test_by_name(self):
        sampler = demo_sampler()
        self.assertEqual([sampler.resample(event="x"), sampler.remaining(variable="b"), sampler.dropped(variable="b")],
                         [(0, 0), [0], [0]])

    def test_values_are_kept_in_the_order_of_the_tape(self):
        sampler = Sampler(Problem([("a", 6)], [("x", ["a"], [(0,), (1,), (2,), (3,)])]), {"a": [3, 1, 2, 0, 5, 4]})
        for steps in range(5):
            self.assertEqual([sampler.dropped("a"), sampler.remaining("a"), len(sampler)],
                             [[3, 1, 2, 0][:steps], [3, 1, 2, 0, 5, 4][steps + 1:], steps])
            if steps < 4:
                sampler.resample("x")

    def test_order_of_the_variables(self):
        problem = Problem([("c", 2), ("a", 3), ("b", 4)])
        self.assertEqual(Sampler(problem, {"a": [2], "b": [3], "c": [1]}).assignment(), (1, 2, 3))

    def test_unknown_variables(self):
        sampler = demo_sampler()
        for value in all_values():
            if value != "a":
                self.assert_error(UnknownVariable, "name", value, sampler.remaining, value)
                self.assert_error(UnknownVariable, "name", value, sampler.dropped, value)
        self.assert_error(UnknownVariable, "name", "x", sampler.dropped, "x")

    def test_no_list_is_shared_with_the_sampler(self):
        sampler = demo_sampler()
        sampler.resample("x")
        for action in (sampler.history, sampler.occurring, sampler.ready, lambda: sampler.remaining("b"),
                       lambda: sampler.dropped("b")):
            self.assert_new_lists(action)

    def test_repr(self):
        self.assertIsInstance(repr(demo_sampler()), str)


class Status(PackageTest):
    def test_valid(self):
        for tapes in ({"a": [1], "b": [0], "c": [0]}, {"a": [1, 0], "b": [0, 0], "c": [0, 1]}):
            sampler = Sampler(demo(), tapes)
            self.assertEqual([sampler.occurring(), sampler.ready()], [[], []])
            self.assertIs(sampler.is_valid(), True)
            self.assertIs(sampler.is_stuck(), False)

    def test_stuck(self):
        for tapes in ({"a": [0], "b": [0, 1], "c": [0, 1]}, {"a": [0, 1], "b": [0], "c": [0]}):
            sampler = Sampler(demo(), tapes)
            self.assertEqual([sampler.occurring(), sampler.ready()], [["x"], []])
            self.assertIs(sampler.is_valid(), False)
            self.assertIs(sampler.is_stuck(), True)

    def test_open(self):
        sampler = Sampler(pair(), {"a": [1], "b": [1, 0]})
        self.assertEqual([sampler.occurring(), sampler.ready()], [["x", "y"], ["y"]])
        self.assertIs(sampler.is_valid(), False)
        self.assertIs(sampler.is_stuck(), False)
        sampler.resample("y")
        self.assertEqual([sampler.occurring(), sampler.is_stuck()], [["x"], True])

    def test_no_events(self):
        sampler = Sampler(Problem([("a", 2)]), {"a": [1]})
        self.assertEqual([sampler.occurring(), sampler.ready(), sampler.is_valid(), sampler.is_stuck()],
                         [[], [], True, False])

    def test_order_of_the_events(self):
        sampler = Sampler(four_events(), four_tapes())
        self.assertEqual([sampler.occurring(), sampler.ready()], [["d", "b", "c", "a"]] * 2)


class Steps(PackageTest):
    def test_against_the_model(self):
        source = random.Random(41)
        for problem in problems(150, 40):
            tapes = random_tapes(source, problem)
            sampler, model = Sampler(problem, tapes), Model(problem, tapes)
            for _ in range(25):
                self.assertEqual(parts(sampler), model.parts())
                self.check_step(source, sampler, model)

    def check_step(self, source, sampler, model):
        """Make or undo one step that is possible, and try all that are not."""
        for event in model.problem.events():
            if event not in model.occurring():
                self.assert_error(NotOccurring, "event", event, sampler.resample, event)
            elif model.exhausted(event):
                self.assert_error(TapeExhausted, "variable", model.exhausted(event)[0], sampler.resample, event)
        ready = model.ready()
        if ready and (source.random() < 0.7 or not model.history):
            event = source.choice(ready)
            self.assertEqual(sampler.resample(event), model.resample(event))
        elif model.history:
            self.assertEqual(sampler.undo(), model.undo())
        else:
            self.assert_plain(NothingToUndo, sampler.undo)

    def test_kinds_of_results(self):
        sampler = demo_sampler()
        self.assertIs(type(sampler.resample("x")), tuple)
        self.assertEqual(sampler.history(), [("x", (0, 0))])
        self.assertIs(type(sampler.history()[0]), tuple)
        self.assertIs(type(sampler.assignment()), tuple)

    def test_values_in_the_order_of_the_scope(self):
        sampler = Sampler(long_names(), {"left": [1, 0], "right": [2, 1]})
        self.assertEqual([sampler.resample("both"), sampler.history()], [(2, 1), [("both", (2, 1))]])

    def test_unknown_events(self):
        sampler = demo_sampler()
        for value in all_values() + ["b"]:
            self.assert_error(UnknownEvent, "name", value, sampler.resample, value)
        self.assertEqual(parts(sampler), parts(demo_sampler()))

    def test_event_does_not_occur(self):
        sampler, event = Sampler(long_names(), {"left": [0], "right": [0]}), fresh("never")
        self.assert_error(NotOccurring, "event", event, sampler.resample, event)
        event = fresh("low")
        self.assert_error(NotOccurring, "event", event, sampler.resample, event)

    def test_tapes_that_end(self):
        for left, right, variable in [([1], [2], "right"), ([1], [2, 0], "left"), ([1, 0], [2], "right")]:
            sampler = Sampler(long_names(), {"left": left, "right": right})
            before = parts(sampler)
            with self.assertRaises(TapeExhausted) as context:
                sampler.resample("both")
            self.assertEqual([context.exception.variable, parts(sampler)], [variable, before])

    def test_history_and_undo(self):
        sampler = demo_sampler()
        states = [parts(sampler)]
        for event in ("x", "y"):
            sampler.resample(event)
            states.append(parts(sampler))
        self.assertEqual(sampler.history(), [("x", (0, 0)), ("y", (1, 1))])
        self.assertEqual([sampler.undo(), parts(sampler)], [("y", (1, 1)), states[1]])
        self.assertEqual([sampler.undo(), parts(sampler)], [("x", (0, 0)), states[0]])
        self.assert_plain(NothingToUndo, sampler.undo)
        self.assertEqual(parts(sampler), states[0])
        self.assertEqual([run_sampler(sampler), parts(sampler)], [2, states[2]])


class Copies(PackageTest):
    def test_copies_are_independent(self):
        sampler = demo_sampler()
        sampler.resample("x")
        one = sampler.copied()
        self.assertEqual(parts(one), parts(sampler))
        self.assertIs(one == sampler, True)
        self.assertIs(type(one), Sampler)
        before = parts(sampler)
        one.resample("y")
        self.assertEqual(parts(sampler), before)
        self.assertIs(one == sampler, False)
        sampler.undo()
        self.assertEqual([one.history(), one.dropped("b")], [[("x", (0, 0)), ("y", (1, 1))], [0, 1]])
        self.assertEqual([one.undo(), one.undo(), one == sampler], [("y", (1, 1)), ("x", (0, 0)), True])

    def test_copy_of_a_busy_sampler(self):
        copies = []

        def choose(events):
            copies.append(sampler.copied())
            self.assertEqual(copies[-1], sampler)
            copies[-1].resample(events[0])
            self.assertEqual([copies[-1].undo()[0], run_sampler(copies[-1].copied())], [events[0], 3 - len(copies)])
            return events[0]

        sampler = demo_sampler()
        self.assertEqual([run_sampler(sampler, choose), len(copies)], [2, 2])
        self.assertEqual(copies[0], demo_sampler())

    def test_equal_samplers(self):
        for tapes in (TAPES, {"a": [0], "b": [1], "c": [1]}):
            one, other = Sampler(demo(), tapes), Sampler(demo(), tapes)
            self.assertIs(one == other, True)
            self.assertIs(one != other, False)
        one.problem().events().clear()
        self.assertEqual(one, other)

    def test_other_samplers(self):
        step = demo_sampler()
        step.resample("x")
        same_values = Sampler(Problem([("a", 2), ("b", 2), ("c", 2)]), TAPES)
        samplers = [demo_sampler(), step, same_values, Sampler(demo(), {**TAPES, "a": [0, 0]}),
                    Sampler(demo(), {**TAPES, "c": [1]}), Sampler(demo(), {**TAPES, "b": [1, 1, 0]}),
                    Sampler(demo(), {**TAPES, "b": [0, 1, 0, 0]})]
        for at, one in enumerate(samplers):
            for place, other in enumerate(samplers):
                self.assertIs(one == other, at == place)
                self.assertIs(one != other, at != place)

    def test_histories_that_are_equivalent_only(self):
        one, other = Sampler(pair(), {"a": [1, 0], "b": [1, 0]}), Sampler(pair(), {"a": [1, 0], "b": [1, 0]})
        for event in "xy":
            one.resample(event)
        for event in "yx":
            other.resample(event)
        self.assertEqual(parts(one)[:3], parts(other)[:3])
        self.assertIs(one == other, False)

    def test_places_count(self):
        """The dropped values are compared as well: both samplers show a current 1 and one value after it."""
        problem = Problem([("a", 2), ("b", 2)], [("x", ["a", "b"], [(1, 1)]), ("y", ["b", "a"], [(1, 1)])])
        one, other = Sampler(problem, {"a": [1] * 3, "b": [1] * 3}), Sampler(problem, {"a": [1] * 2, "b": [1] * 2})
        one.resample("x")
        self.assertEqual([one.assignment(), one.remaining("a")], [other.assignment(), other.remaining("a")])
        self.assertIs(one == other, False)

    def test_other_kinds(self):
        for value in without_kind(Sampler):
            self.assertIs(demo_sampler() == value, False)
            self.assertIs(value == demo_sampler(), False)

    def test_a_run_has_no_effect_on_equality(self):
        seen = []

        def choose(events):
            seen.append(sampler == other and other == sampler)
            other.resample(events[0])
            return events[0]

        sampler, other = demo_sampler(), demo_sampler()
        run_sampler(sampler, choose)
        self.assertEqual(seen, [True, True])


class Runs(PackageTest):
    def test_example(self):
        other = demo_sampler()
        self.assertEqual([run_sampler(other), other.is_valid(), other.assignment()], [2, True, (1, 0, 0)])

    def test_first_ready_event(self):
        sampler = Sampler(four_events(), {"a": [1, 0], "b": [1], "c": [1, 1, 0], "d": [0]})
        self.assertEqual(run_sampler(sampler), 3)
        self.assertEqual([event for event, _ in sampler.history()], ["c", "c", "a"])
        self.assertIs(sampler.is_stuck(), True)

    def test_every_run_ends(self):
        source = random.Random(49)
        for problem in problems(150, 48):
            sampler = Sampler(problem, random_tapes(source, problem))
            for choose in (None, choose_last, round_robin(source.randrange(9)), source.choice):
                copy = sampler.copied()
                steps = run_sampler(copy, choose)
                self.assertIs(type(steps), int)
                self.assertEqual([steps, copy.ready()], [len(copy), []])
                self.assertIs(copy.is_valid() != copy.is_stuck(), True)
            self.assertEqual(len(sampler), 0)

    def test_max_steps(self):
        for most in range(12):
            sampler = Sampler(four_events(), four_tapes(4))
            self.assertEqual([run_sampler(sampler, max_steps=most), len(sampler)], [most, most])
            self.assertEqual([run_sampler(sampler, max_steps=240), len(sampler)], [12 - most, 12])
            self.assertEqual([run_sampler(sampler=sampler, choose=None, max_steps=0), len(sampler)], [0, 12])

    def test_max_steps_by_default(self):
        sampler = Sampler(Problem([(name, 2) for name in "abcde"], [(name, [name], [(1,)]) for name in "abcde"]),
                          {name: [1] * 40 for name in "abcde"})
        self.assertEqual([run_sampler(sampler), sampler.is_stuck()], [195, True])

    def test_calls_of_choose(self):
        seen = []

        def choose(events):
            self.assertIs(type(events), list)
            seen.append((events, list(events), len(sampler)))
            return events[len(seen) % len(events)]

        sampler = Sampler(four_events(), four_tapes(3))
        self.assertEqual(run_sampler(sampler, choose, max_steps=6), 6)
        self.assertEqual([count for _, _, count in seen], [0, 1, 2, 3, 4, 5])
        self.assertEqual(len({id(events) for events, _, _ in seen}), 6)
        model = Model(four_events(), four_tapes(3))
        for at, (_, events, _) in enumerate(seen):
            self.assertEqual(events, model.ready())
            model.resample(events[(at + 1) % len(events)])
        self.assertEqual(sampler.history(), model.history)

    def test_choose_is_not_called_in_vain(self):
        calls = []
        for sampler, most in [(demo_sampler(), 0), (Sampler(demo(), {"a": [0], "b": [0], "c": [0]}), 240),
                              (Sampler(demo(), {"a": [1], "b": [0], "c": [0]}), 240)]:
            self.assertEqual(run_sampler(sampler, calls.append, max_steps=most), 0)
        self.assertEqual(calls, [])

    def test_choose_may_change_its_list(self):
        def choose(events):
            last = events.pop()
            events.clear()
            events.extend(["never", last])
            return last

        sampler = Sampler(four_events(), four_tapes(2))
        self.assertEqual(run_sampler(sampler, choose), 4)
        self.assertEqual([event for event, _ in sampler.history()], ["a", "c", "b", "d"])

        def pretend(events):
            events.append("low")
            return "low"

        sampler = Sampler(long_names(), {"left": [0, 1], "right": [0, 0]})
        self.assert_error(InvalidChoice, "value", "low", run_sampler, sampler, pretend)

    def test_equal_name_is_a_choice(self):
        sampler = Sampler(long_names(), {"left": [1, 0], "right": [0, 1]})
        self.assertEqual(run_sampler(sampler, lambda events: fresh("low"), max_steps=1), 1)
        self.assertEqual(sampler.history(), [("low", (1,))])

    def test_invalid_choices(self):
        for value in all_values() + [["x"], ("x",), "y", "b"]:
            sampler = demo_sampler()
            self.assert_error(InvalidChoice, "value", value, run_sampler, sampler, lambda events: value)
            self.assertEqual([len(sampler), sampler.resample("x")], [0, (0, 0)])

    def test_steps_before_a_failure_remain(self):
        sampler = Sampler(four_events(), four_tapes(9))
        choices = ["a", "c", "a", "never"]
        with self.assertRaises(InvalidChoice) as context:
            run_sampler(sampler, lambda events: choices[len(sampler)])
        self.assertIs(context.exception.value, choices[3])
        self.assertEqual(sampler.history(), [("a", (1,)), ("c", (1,)), ("a", (1,))])
        self.assertEqual([sampler.undo(), run_sampler(sampler, max_steps=1)], [("a", (1,)), 1])

    def test_exceptions_of_choose(self):
        for kind in (KeyError, ZeroDivisionError, InvalidChoice, SamplerBusy, KeyboardInterrupt):
            error = kind("some") if kind is not SamplerBusy else kind()

            def choose(events):
                if len(sampler) == 1:
                    raise error
                return events[0]

            sampler = demo_sampler()
            with self.assertRaises(kind) as context:
                run_sampler(sampler, choose)
            self.assertIs(context.exception, error)
            self.assertEqual(sampler.history(), [("x", (0, 0))])
            self.assertEqual([sampler.resample("y"), run_sampler(sampler)], [(1, 1), 0])

    def test_no_sampler(self):
        for value in without_kind(Sampler):
            self.assert_error(InvalidSampler, "value", value, run_sampler, value)
            self.assert_error(InvalidSampler, "value", value, run_sampler, value, max_steps=None)

    def test_limits_of_max_steps(self):
        for value in non_integers_from(0, 240):
            sampler = demo_sampler()
            self.assert_error(InvalidInteger, "value", value, run_sampler, sampler, max_steps=value)
            self.assertEqual(len(sampler), 0)


class Busy(PackageTest):
    def test_while_choose_is_executed(self):
        calls = []

        def choose(events):
            before = parts(sampler)
            for value in all_values() + ["x", "y"]:
                self.assert_plain(SamplerBusy, sampler.resample, value)
            for most in (0, 1, 240):
                self.assert_plain(SamplerBusy, run_sampler, sampler, max_steps=most)
                self.assert_plain(SamplerBusy, run_sampler, sampler, choose, max_steps=most)
            self.assert_plain(SamplerBusy, sampler.undo)
            self.assertEqual(parts(sampler), before)
            calls.append(events)
            return events[0]

        sampler = demo_sampler()
        self.assertEqual([run_sampler(sampler, choose), len(calls), sampler.assignment()], [2, 2, (1, 0, 0)])
        self.assertEqual(sampler.undo(), ("y", (1, 1)))

    def test_checks_come_before(self):
        def choose(events):
            for value in non_integers_from(0, 240):
                self.assert_error(InvalidInteger, "value", value, run_sampler, sampler, max_steps=value)
            self.assert_error(InvalidSampler, "value", events, run_sampler, events)
            return events[0]

        sampler = demo_sampler()
        self.assertEqual(run_sampler(sampler, choose), 2)

    def test_other_samplers_are_not_busy(self):
        def choose(events):
            self.assertEqual(run_sampler(other, lambda names: names[0], max_steps=1), 1)
            self.assert_plain(SamplerBusy, sampler.undo)
            return events[0]

        sampler, other = demo_sampler(), demo_sampler()
        self.assertEqual([run_sampler(sampler, choose), other == sampler], [2, True])

    def test_two_runs_at_once(self):
        def outer(events):
            self.assertEqual(run_sampler(other, inner, max_steps=1), 1)
            other.undo()
            self.assert_plain(SamplerBusy, sampler.resample, events[0])
            return events[0]

        def inner(events):
            for one in (sampler, other):
                self.assert_plain(SamplerBusy, one.undo)
                self.assert_plain(SamplerBusy, run_sampler, one)
            return events[0]

        sampler, other = demo_sampler(), demo_sampler()
        self.assertEqual([run_sampler(sampler, outer), len(other)], [2, 0])

    def test_the_end_of_a_run(self):
        for choose in (lambda events: "x", lambda events: None, lambda events: events[5]):
            sampler = demo_sampler()
            try:
                run_sampler(sampler, choose, max_steps=1)
            except (InvalidChoice, IndexError):
                sampler.resample("x")
            self.assertEqual([sampler.undo(), run_sampler(sampler)], [("x", (0, 0)), 2])


class Choices(PackageTest):
    def test_last(self):
        for events in (["x"], ["x", "y"], ("x", "y", "z")):
            self.assertEqual(choose_last(events), events[-1])
        self.assertEqual(choose_last(events=["x", "y"]), "y")
        sampler = Sampler(four_events(), four_tapes(2))
        run_sampler(sampler, choose_last)
        self.assertEqual([event for event, _ in sampler.history()], ["a", "c", "b", "d"])

    def test_round_robin(self):
        for start in (0, 1, 2, 7, 10 ** 30 - 1):
            choose, lengths = round_robin(start), [1, 3, 4, 4, 2, 1, 8, 3, 3, 3]
            for call, length in enumerate(lengths):
                self.assertEqual(choose(list(range(length))), (start + call) % length)
                self.assertEqual(round_robin(start)(tuple(range(length))), start % length)

    def test_round_robin_by_default(self):
        one, other = round_robin(), round_robin(start=0)
        self.assertEqual([one("abc"), one("abc"), other("abc"), one("abc"), one("abc"), other("abc")],
                         ["a", "b", "a", "c", "a", "b"])
        self.assertIs(one == one, True)
        self.assertIs(one == other, False)

    def test_calls_are_counted_over_all_runs(self):
        choose = round_robin(2)
        sampler, other = Sampler(four_events(), four_tapes()), Sampler(four_events(), four_tapes())
        run_sampler(sampler, choose, max_steps=3)
        run_sampler(other, choose, max_steps=2)
        self.assertEqual([event for event, _ in sampler.history() + other.history()], ["c", "a", "d", "b", "c"])

    def test_starts(self):
        for value in non_integers() + [-1, -(10 ** 29)]:
            self.assert_error(InvalidInteger, "value", value, round_robin, value)


if __name__ == "__main__":
    unittest.main()
