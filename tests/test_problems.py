import unittest
from fractions import Fraction

from resampler.errors import (DuplicateName, InvalidAssignment, InvalidEvents, InvalidInteger, InvalidNames,
                              InvalidProblem, InvalidVariables, TooLarge, UnknownEvent, UnknownVariable)
from resampler.problems import (Problem, combine_problems, find_overlap, is_exclusive, shows_overlap,
                                valid_assignments, without_events)
from resampler.ratios import Ratio
from tests.samples import all_values, non_integers_from, non_lists, without_kind
from tests.support import (EVENT_NAMES, VARIABLE_NAMES, PackageTest, all_assignments, demo, fresh, happens, long_names,
                           made_exclusive, pair, problems, rows_of, shares)

TWO = [("a", 2), ("b", 3)]


class Building(PackageTest):
    def test_parts(self):
        problem = long_names()
        self.assertEqual(problem.variables(), [("left", 2), ("right", 3)])
        self.assertEqual(problem.events(), ["both", "low", "never"])
        self.assertEqual(rows_of(problem), [("both", ["right", "left"], [(0, 0), (2, 1)]), ("low", ["left"], [(1,)]),
                                            ("never", ["right"], [])])

    def test_order_is_that_of_the_arguments(self):
        problem = Problem([("z", 1), ("a", 2), ("m", 3)], [("q", ["m", "z"], []), ("b", ["a"], []), ("p", ["z"], [])])
        self.assertEqual(problem.variables(), [("z", 1), ("a", 2), ("m", 3)])
        self.assertEqual(problem.events(), ["q", "b", "p"])
        self.assertEqual(problem.scope("q"), ["m", "z"])

    def test_events_omitted(self):
        for problem in (Problem(TWO), Problem(TWO, []), Problem(TWO, ()), Problem(variables=TWO, events=[])):
            self.assertEqual([problem.variables(), problem.events(), len(problem)], [TWO, [], 0])

    def test_by_name(self):
        self.assertEqual(Problem(events=rows_of(demo()), variables=demo().variables()), demo())

    def test_tuples_for_lists(self):
        rows = tuple([(name, tuple(scope), tuple(bad)) for name, scope, bad in rows_of(long_names())])
        problem = Problem(tuple(long_names().variables()), rows)
        self.assertEqual(problem, long_names())
        for value in (problem.variables(), problem.events(), problem.scope("both"), problem.bad_tuples("both")):
            self.assertIs(type(value), list)

    def test_names_of_variables_and_events_may_be_equal(self):
        problem = Problem([("a", 2), ("x", 2)], [("x", ["a"], [(1,)]), ("a", ["x"], [])])
        self.assertEqual([problem.scope("x"), problem.scope("a"), problem.size("x")], [["a"], ["x"], 2])

    def test_limits(self):
        variables = [(name, size) for name, size in zip(VARIABLE_NAMES, [1, 2, 3, 4, 5, 6, 1, 6])]
        bad_tuples = [(first, second, 0, 3) for first in range(6) for second in (0, 5)]
        problem = Problem(variables, [(name, ["f", "h", "a", "d"], bad_tuples) for name in EVENT_NAMES])
        self.assertEqual(problem.variables(), variables)
        self.assertEqual([len(problem), problem.bad_tuples("t")], [8, bad_tuples])
        self.assertEqual(Problem([("a", 1)], [("abcdefgh", ["a"], [(0,)])]).events(), ["abcdefgh"])

    def test_later_changes_of_the_arguments(self):
        scope, bad_tuples = ["a", "b"], [(1, 2), (0, 1)]
        variables, events = list(TWO), [("x", scope, bad_tuples)]
        problem = Problem(variables, events)
        scope[0], variables[0] = "b", ("c", 6)
        bad_tuples.append((0, 0))
        events.append(("y", ["a"], []))
        self.assertEqual(problem, Problem(TWO, [("x", ["a", "b"], [(0, 1), (1, 2)])]))

    def test_arguments_stay_as_they_are(self):
        variables, events = [("b", 2), ("a", 3)], [("x", ["b", "a"], [(1, 2), (0, 1)])]
        Problem(variables, events)
        self.assertEqual([variables, events], [[("b", 2), ("a", 3)], [("x", ["b", "a"], [(1, 2), (0, 1)])]])

    def test_no_list_is_shared_with_the_problem(self):
        problem = long_names()
        self.assert_new_lists(problem.variables)
        self.assert_new_lists(problem.events)
        self.assert_new_lists(lambda: problem.scope("both"))
        self.assert_new_lists(lambda: problem.bad_tuples("both"))
        self.assert_new_lists(lambda: problem.neighbors("both"))
        self.assert_new_lists(lambda: problem.occurring((1, 1)))
        self.assert_new_lists(lambda: valid_assignments(problem))
        self.assertEqual(problem, long_names())


class WrongVariables(PackageTest):
    def test_other_values(self):
        for value in all_values():
            self.assert_error(InvalidVariables, "value", value, Problem, value)
            self.assert_error(InvalidVariables, "value", value, Problem, value, None)

    def test_number_of_variables(self):
        for variables in ([], (), [("a" * (k + 1), 2) for k in range(9)], [("a", 2)] * 9):
            self.assert_error(InvalidVariables, "value", variables, Problem, variables)

    def test_items(self):
        for value in all_values() + [["b", 2], ("b", 2, 2), ("b",), {"b": 2}, (("b", 2),)]:
            for variables in ([value], [("a", 2), value], (value, ("a", 2))):
                self.assert_error(InvalidVariables, "value", variables, Problem, variables)

    def test_names(self):
        for name in all_values() + ["abcdefghi", "Ab", "a1", "a_b"]:
            if name not in ("a", "abc"):
                variables = [("d", 2), (name, 2)]
                self.assert_error(InvalidVariables, "value", variables, Problem, variables)

    def test_sizes(self):
        for size in non_integers_from(1, 6) + [-1]:
            variables = [("d", size), ("e", 2)]
            self.assert_error(InvalidVariables, "value", variables, Problem, variables)
        for size in range(1, 7):
            self.assertEqual(Problem([("d", size)]).size("d"), size)

    def test_duplicates(self):
        second, third = fresh("ab"), fresh("ab")
        variables = [("ab", 2), ("cd", 2), (second, 3), ("cd", 2), (third, 2)]
        self.assert_error(DuplicateName, "name", second, Problem, variables)
        self.assert_error(DuplicateName, "name", second, Problem, tuple(variables), 5)

    def test_list_is_checked_before_duplicates(self):
        variables = [("ab", 2), ("ab", 2), ("cd", 7)]
        self.assert_error(InvalidVariables, "value", variables, Problem, variables)


class WrongEvents(PackageTest):
    def refused(self, events):
        self.assert_error(InvalidEvents, "value", events, Problem, TWO, events)

    def test_other_values(self):
        for value in non_lists() + [[1], ["a"], [[]], [()], (1,), [("x", ["a"], [])] * 9]:
            self.refused(value)

    def test_number_of_events(self):
        events = [(name, ["a"], []) for name in EVENT_NAMES]
        self.assertEqual(Problem(TWO, events).events(), EVENT_NAMES)
        self.refused(events + [("r", ["a"], [])])

    def test_items(self):
        for value in all_values() + [["x", ["a"], []], ("x", ["a"]), ("x", ["a"], [], [])]:
            self.refused([("y", ["a"], []), value])

    def test_names(self):
        for name in all_values() + ["abcdefghi", "Ab"]:
            if name not in ("a", "abc"):
                self.refused([(name, ["a"], [])])

    def test_form_of_scopes(self):
        for value in non_lists() + [[], (), ["a"] * 5, [1, 2, 3, 4, 5]]:
            self.refused([("x", value, [])])

    def test_form_of_bad_tuples(self):
        for value in non_lists() + [[(0,)] * 13, ((0,),) * 13]:
            self.refused([("x", ["a"], value)])
        variables, bad_tuples = [("a", 6), ("b", 6)], [(at // 6, at % 6) for at in range(13)]
        events = [("x", ["a", "b"], bad_tuples)]
        self.assert_error(InvalidEvents, "value", events, Problem, variables, events)
        self.assertEqual(Problem(variables, [("x", ["a", "b"], bad_tuples[:12])]).bad_tuples("x"), bad_tuples[:12])

    def test_all_events_are_checked_for_form_first(self):
        for last in [("y", [], []), ("y", ["a"], 5), ("Y", ["a"], []), 7]:
            for first in [("x", ["no"], []), ("x", ["a", "a"], []), ("x", ["a"], [(9,)])]:
                self.refused([first, first, last])

    def test_duplicate_events(self):
        second = fresh("xyz")
        events = [("xyz", ["a"], []), ("y", ["a"], []), (second, ["no"], [(9,)]), ("y", ["a"], [])]
        self.assert_error(DuplicateName, "name", second, Problem, TWO, events)

    def test_unknown_variables(self):
        for value in all_values():
            if value != "a":
                for scope in ([value], ["a", value], ["a", "a", value], (value, "no")):
                    self.assert_error(UnknownVariable, "name", value, Problem, TWO, [("x", scope, [(9,)])])

    def test_name_of_an_event_is_no_variable(self):
        name = fresh("xyz")
        self.assert_error(UnknownVariable, "name", name, Problem, TWO, [("xyz", [name], [])])

    def test_duplicates_in_a_scope(self):
        variables, second = [("ab", 2), ("cd", 2)], fresh("ab")
        events = [("x", ["cd", "ab", second, "cd"], [5])]
        self.assert_error(DuplicateName, "name", second, Problem, variables, events)

    def test_bad_tuples(self):
        for value in all_values() + [(2, 0), (0, 3), (-1, 0), (0, -1), (0,), (0, 0, 0), [0, 0], (True, 0), (0, False),
                                     ("0", "0"), (None, 0), (Ratio(0), 0), ((0,), 0)]:
            if value != (1, 2):
                for bad_tuples in ([value], [(0, 0), value], (value, (1, 2))):
                    self.refused([("x", ["a", "b"], bad_tuples)])

    def test_order_of_values_is_that_of_the_scope(self):
        self.assertEqual(Problem(TWO, [("x", ["b", "a"], [(2, 1)])]).bad_tuples("x"), [(2, 1)])
        self.refused([("x", ["b", "a"], [(1, 2)])])

    def test_bad_tuples_that_appear_twice(self):
        for bad_tuples in ([(0, 0), (0, 0)], [(1, 2), (0, 0), (1, 2)]):
            self.refused([("x", ["a", "b"], bad_tuples)])

    def test_event_by_event(self):
        wrong_tuples, wrong_scope = ("x", ["a"], [(2,)]), ("y", ["no"], [])
        self.refused([wrong_tuples, wrong_scope])
        self.assert_error(UnknownVariable, "name", "no", Problem, TWO, [wrong_scope, wrong_tuples])
        self.refused([wrong_tuples, ("x", ["a"], [])])
        self.assert_error(DuplicateName, "name", "a", Problem, TWO, [("y", ["a", "a"], [5]), wrong_tuples])


class Reading(PackageTest):
    def test_sizes(self):
        self.assertEqual([long_names().size("left"), long_names().size(variable="right")], [2, 3])

    def test_bad_tuples_ascend(self):
        problem = Problem([("a", 6), ("b", 6)], [("x", ["a", "b"], [(5, 0), (0, 5), (3, 1), (3, 0), (0, 0)])])
        self.assertEqual(problem.bad_tuples("x"), [(0, 0), (0, 5), (3, 0), (3, 1), (5, 0)])
        self.assertEqual(problem.scope(event="x"), ["a", "b"])

    def test_length(self):
        self.assertEqual([len(demo()), len(long_names()), len(Problem(TWO))], [2, 3, 0])

    def test_unknown_names(self):
        problem = demo()
        for value in all_values():
            if value != "a":
                self.assert_error(UnknownVariable, "name", value, problem.size, value)
            self.assert_error(UnknownEvent, "name", value, problem.scope, value)
            self.assert_error(UnknownEvent, "name", value, problem.bad_tuples, value)
        self.assert_error(UnknownVariable, "name", "x", problem.size, "x")
        self.assert_error(UnknownEvent, "name", "b", problem.scope, "b")

    def test_equal_problems(self):
        for problem in problems(20, 1) + [demo(), pair(), long_names(), Problem(TWO)]:
            rows = [(name, scope, bad[::-1]) for name, scope, bad in rows_of(problem)]
            self.assertIs(problem == Problem(problem.variables(), rows), True)
            self.assertIs(problem != Problem(problem.variables(), rows), False)

    def test_other_problems(self):
        kinds = [demo(), pair(), long_names(), Problem(TWO), Problem(TWO[::-1]), Problem([("a", 2), ("b", 2)]),
                 Problem([("a", 2), ("c", 3)]), Problem(TWO + [("c", 1)]), Problem(TWO, [("x", ["a"], [])]),
                 Problem(TWO, [("y", ["a"], [])]), Problem(TWO, [("x", ["a"], [(0,)])]),
                 Problem(TWO, [("x", ["a"], [(1,)])]), Problem(TWO, [("x", ["b"], [(1,)])]),
                 Problem(TWO, [("x", ["a", "b"], [(1, 1)])]), Problem(TWO, [("x", ["b", "a"], [(1, 1)])]),
                 Problem(TWO, [("x", ["a"], []), ("y", ["a"], [])]), Problem(TWO, [("y", ["a"], []), ("x", ["a"], [])])]
        for at, one in enumerate(kinds):
            for place, other in enumerate(kinds):
                self.assertIs(one == other, at == place)
                self.assertIs(one != other, at != place)

    def test_other_kinds(self):
        for value in without_kind(Problem):
            self.assertIs(demo() == value, False)
            self.assertIs(value == demo(), False)

    def test_repr(self):
        self.assertIsInstance(repr(demo()), str)


class Adjacency(PackageTest):
    def test_by_the_definition(self):
        for problem in problems(60, 2) + [demo(), pair(), long_names()]:
            events = problem.events()
            for one in events:
                near = [other for other in events if shares(problem, one, other)]
                self.assertEqual(problem.neighbors(one), [other for other in near if other != one])
                for other in events:
                    self.assertIs(problem.are_adjacent(one, other), other in near)

    def test_demo_and_pair(self):
        self.assertEqual([demo().neighbors("x"), demo().neighbors(event="y"), pair().neighbors("x")], [["y"], ["x"], []])
        self.assertIs(demo().are_adjacent(one="x", other="y"), True)
        self.assertIs(pair().are_adjacent("x", "y"), False)
        self.assertIs(pair().are_adjacent("x", "x"), True)

    def test_scopes_only(self):
        self.assertIs(long_names().are_adjacent("never", "both"), True)
        self.assertIs(long_names().are_adjacent("never", "never"), True)
        self.assertIs(long_names().are_adjacent("never", "low"), False)
        self.assertEqual(long_names().neighbors("both"), ["low", "never"])

    def test_unknown_events(self):
        for value in all_values():
            self.assert_error(UnknownEvent, "name", value, demo().neighbors, value)
            self.assert_error(UnknownEvent, "name", value, demo().are_adjacent, value, "x")
            self.assert_error(UnknownEvent, "name", value, demo().are_adjacent, "x", value)
            self.assert_error(UnknownEvent, "name", value, demo().are_adjacent, value, fresh("no"))


class Assignments(PackageTest):
    def test_assignments(self):
        for problem in problems(30, 3) + [demo(), long_names()]:
            for assignment in all_assignments(problem):
                self.assertIs(problem.is_assignment(assignment), True)
                self.assertIs(problem.is_assignment(list(assignment)), False)
                self.assertIs(problem.is_assignment(assignment + (0,)), False)
                self.assertIs(problem.is_assignment(assignment[:-1]), False)

    def test_other_values(self):
        problem = long_names()
        for value in all_values() + [(2, 0), (0, 3), (-1, 0), (True, 0), (0, False), ("0", 0), (0, None), (Ratio(0), 0),
                                     ((0, 0),), [0, 0], ((0,), (0,)), {0: 0, 1: 0}]:
            if value != (1, 2):
                self.assertIs(problem.is_assignment(value=value), False)
                self.assert_error(InvalidAssignment, "value", value, problem.occurs, "low", value)
                self.assert_error(InvalidAssignment, "value", value, problem.occurring, value)

    def test_by_the_definition(self):
        for problem in problems(60, 4) + [demo(), pair(), long_names()]:
            for assignment in all_assignments(problem):
                found = [event for event in problem.events() if happens(problem, event, assignment)]
                self.assertEqual(problem.occurring(assignment), found)
                for event in problem.events():
                    self.assertIs(problem.occurs(event, assignment), event in found)

    def test_examples(self):
        self.assertEqual(demo().occurring((0, 0, 1)), ["x"])
        self.assertEqual(long_names().occurring(assignment=(1, 2)), ["both", "low"])
        self.assertIs(long_names().occurs(event="both", assignment=(1, 2)), True)

    def test_unknown_events(self):
        for value in all_values():
            self.assert_error(UnknownEvent, "name", value, demo().occurs, value, (0, 0, 0))
            self.assert_error(UnknownEvent, "name", value, demo().occurs, value, None)


class Counting(PackageTest):
    def test_counts(self):
        for problem in problems(60, 5) + [demo(), pair(), long_names()]:
            assignments = all_assignments(problem)
            self.assertEqual(problem.assignment_count(), len(assignments))
            self.assertIs(type(problem.assignment_count()), int)
            for event in problem.events():
                part = Fraction(len([1 for one in assignments if happens(problem, event, one)]), len(assignments))
                found = problem.probability(event)
                self.assertIs(type(found), Ratio)
                self.assertEqual((found.num(), found.den()), (part.numerator, part.denominator))

    def test_examples(self):
        self.assertEqual([demo().assignment_count(), Problem([("a", 6)] + TWO[1:]).assignment_count()], [8, 18])
        self.assertEqual(Problem([(name, 6) for name in VARIABLE_NAMES]).assignment_count(), 6 ** 8)
        self.assertEqual([str(long_names().probability(event)) for event in ("both", "low", "never")],
                         ["1/3", "1/2", "0"])
        self.assertEqual(Problem([("a", 2)], [("x", ["a"], [(1,), (0,)])]).probability(event="x"), Ratio(1))

    def test_unknown_events(self):
        for value in all_values():
            self.assert_error(UnknownEvent, "name", value, demo().probability, value)


def joint_assignment(problem, one, other):
    """Return by the definition what find_overlap states for two events, or None."""
    found = [assignment for assignment in all_assignments(problem)
             if happens(problem, one, assignment) and happens(problem, other, assignment)]
    names = [name for name, _ in problem.variables()]

    def rank(assignment):
        values = dict(zip(names, assignment))
        rest = [values[name] for name in names if name not in problem.scope(one) + problem.scope(other)]
        return [values[name] for name in problem.scope(one)], [values[name] for name in problem.scope(other)], rest

    return min(found, key=rank) if found else None


def first_overlap(problem):
    events = problem.events()
    for place, one in enumerate(events):
        for other in events[place + 1:]:
            if shares(problem, one, other) and joint_assignment(problem, one, other) is not None:
                return one, other, joint_assignment(problem, one, other)
    return None


class Overlaps(PackageTest):
    def test_by_the_definition(self):
        seen = []
        for problem in problems(300, 6) + [made_exclusive(problem) for problem in problems(40, 7)]:
            found = find_overlap(problem)
            self.assertEqual(found, first_overlap(problem))
            self.assertIs(is_exclusive(problem), found is None)
            seen.append(found is None)
            if found is not None:
                self.assertIs(type(found), tuple)
                self.assertIs(shows_overlap(problem, found), True)
        self.assertEqual({True, False}, set(seen))

    def test_examples(self):
        problem = Problem([("a", 2)], [("x", ["a"], [(0,), (1,)]), ("y", ["a"], [(1,)])])
        self.assertEqual(find_overlap(problem), ("x", "y", (1,)))
        self.assertIsNone(find_overlap(problem=demo()))
        self.assertEqual([is_exclusive(demo()), is_exclusive(problem=problem)], [True, False])

    def test_events_that_are_not_adjacent(self):
        self.assertIsNone(find_overlap(pair()))
        self.assertIs(is_exclusive(pair()), True)
        self.assertIs(shows_overlap(pair(), ("x", "y", (1, 1))), False)

    def test_first_bad_tuples(self):
        problem = Problem([("a", 2), ("b", 2), ("c", 3), ("d", 2)],
                          [("n", ["a"], []), ("x", ["b", "c"], [(1, 1), (0, 2), (1, 2)]),
                           ("y", ["d", "c"], [(1, 2), (1, 1), (0, 1)])])
        self.assertEqual(find_overlap(problem), ("x", "y", (0, 0, 2, 1)))

    def test_order_of_pairs(self):
        problem = Problem([("a", 3)], [("u", ["a"], [(2,)]), ("v", ["a"], [(0,), (1,)]), ("w", ["a"], [(0,)]),
                                       ("z", ["a"], [(2,)])])
        self.assertEqual(find_overlap(problem), ("u", "z", (2,)))

    def test_shown_overlaps_by_the_definition(self):
        for problem in problems(30, 8, variables=3):
            for one in problem.events():
                for other in problem.events():
                    for assignment in all_assignments(problem):
                        expected = (one != other and shares(problem, one, other) and happens(problem, one, assignment)
                                    and happens(problem, other, assignment))
                        self.assertIs(shows_overlap(problem, (one, other, assignment)), expected)

    def test_shown_overlaps(self):
        problem = long_names()
        for one, other in [("both", "low"), ("low", "both")]:
            self.assertIs(shows_overlap(problem, (one, other, (1, 2))), True)
            self.assertIs(shows_overlap(problem=problem, value=(fresh(one), other, (1, 2))), True)
            for value in [[one, other, (1, 2)], (one, other, [1, 2]), (one, other), (one, other, (1, 2), 0),
                          (one, one, (1, 2)), (one, "never", (1, 2)), (one, other, (1, 1)), (one, other, (True, 2)),
                          (one, other, (1, 2, 0)), ((one, other), (1, 2)), (one, (other, (1, 2)))]:
                self.assertIs(shows_overlap(problem, value), False)

    def test_any_value_shows_nothing(self):
        for value in all_values():
            for one in (value, (value, "low", (1, 2)), ("both", value, (1, 2)), ("both", "low", value)):
                if value != (1, 2):
                    self.assertIs(shows_overlap(long_names(), one), False)

    def test_no_problem(self):
        for value in without_kind(Problem):
            self.assert_error(InvalidProblem, "value", value, find_overlap, value)
            self.assert_error(InvalidProblem, "value", value, is_exclusive, value)
            self.assert_error(InvalidProblem, "value", value, shows_overlap, value, None)


class ValidAssignments(PackageTest):
    def test_by_the_definition(self):
        for problem in problems(60, 9) + [demo(), pair(), long_names()]:
            expected = [assignment for assignment in all_assignments(problem)
                        if not any([happens(problem, event, assignment) for event in problem.events()])]
            self.assertEqual(valid_assignments(problem), expected)

    def test_examples(self):
        self.assertEqual(valid_assignments(demo()), [(0, 1, 0), (1, 0, 0), (1, 0, 1), (1, 1, 0)])
        self.assertEqual(valid_assignments(problem=Problem([("a", 2)], [("x", ["a"], [(0,), (1,)])]), limit=2), [])

    def test_too_many(self):
        for limit in (8, 9, 4096):
            self.assertEqual(len(valid_assignments(demo(), limit=limit)), 4)
        for limit in (1, 4, 7):
            self.assert_number(TooLarge, "count", 8, valid_assignments, demo(), limit=limit)
        self.assertEqual(len(valid_assignments(Problem([(name, 4) for name in "abcdef"]))), 4096)
        self.assert_number(TooLarge, "count", 4320, valid_assignments,
                           Problem([(name, 6) for name in "abc"] + [("d", 5), ("e", 4)]))
        self.assert_number(TooLarge, "count", 6 ** 8, valid_assignments, Problem([(name, 6) for name in VARIABLE_NAMES]))

    def test_limits(self):
        for limit in non_integers_from(1, 4096):
            self.assert_error(InvalidInteger, "value", limit, valid_assignments, demo(), limit=limit)
            self.assert_error(InvalidInteger, "value", limit, valid_assignments,
                              Problem([(name, 6) for name in VARIABLE_NAMES]), limit=limit)

    def test_no_problem(self):
        for value in without_kind(Problem):
            self.assert_error(InvalidProblem, "value", value, valid_assignments, value)
            self.assert_error(InvalidProblem, "value", value, valid_assignments, value, limit=0)


class WithoutEvents(PackageTest):
    def test_some_events(self):
        problem, rows = long_names(), rows_of(long_names())
        for names, kept in [([], rows), (["both"], rows[1:]), (["never", "both"], rows[1:2]),
                            (("low", "never"), rows[:1]), (["low", "both", "never"], [])]:
            found = without_events(problem, names)
            self.assertEqual(found, Problem(problem.variables(), kept))
            self.assertIs(type(found), Problem)
        self.assertEqual(problem, long_names())
        self.assertEqual(without_events(problem=demo(), names=["x"]).events(), ["y"])

    def test_all_eight(self):
        problem = Problem([("a", 2)], [(name, ["a"], []) for name in EVENT_NAMES])
        self.assertEqual(without_events(problem, EVENT_NAMES[::-1]), Problem([("a", 2)]))

    def test_names_are_not_a_list(self):
        for value in non_lists() + [["both"] * 9, (1,) * 9, EVENT_NAMES + ["r"]]:
            self.assert_error(InvalidNames, "value", value, without_events, long_names(), value)

    def test_unknown_events(self):
        for value in all_values() + ["left"]:
            for names in ([value], ["low", value, "low"], (value, "both", "both"), [value, value]):
                self.assert_error(UnknownEvent, "name", value, without_events, long_names(), names)

    def test_duplicates(self):
        second = fresh("both")
        for names in (["both", "low", second, "low"], ["both", second, "no"], ("both", second)):
            self.assert_error(DuplicateName, "name", second, without_events, long_names(), names)

    def test_no_problem(self):
        for value in without_kind(Problem):
            self.assert_error(InvalidProblem, "value", value, without_events, value, None)


class CombinedProblems(PackageTest):
    def test_parts_of_both(self):
        one, other = pair(), long_names()
        for first, second in [(one, other), (other, one), (Problem([("m", 4)]), one), (one, Problem([("m", 4)]))]:
            found = combine_problems(first, second)
            self.assertEqual(found.variables(), first.variables() + second.variables())
            self.assertEqual(rows_of(found), rows_of(first) + rows_of(second))
        self.assertEqual([one, other], [pair(), long_names()])
        self.assertEqual(len(combine_problems(one=one, other=other)), 5)

    def test_limits(self):
        halves = [Problem([(name, 2) for name in names], [(name, [names[0]], []) for name in names])
                  for names in (VARIABLE_NAMES[:4], VARIABLE_NAMES[4:])]
        self.assertEqual(combine_problems(*halves).events(), VARIABLE_NAMES)
        nine = Problem([("i", 2), ("j", 2)], [("i", ["i"], [])])
        self.assert_number(TooLarge, "count", 9, combine_problems, Problem([(name, 2) for name in VARIABLE_NAMES[:7]]),
                           nine)
        self.assert_number(TooLarge, "count", 10, combine_problems, combine_problems(*halves), nine)
        many = Problem([("a", 2)], [(name, ["a"], []) for name in EVENT_NAMES])
        self.assert_number(TooLarge, "count", 9, combine_problems, many, nine)
        self.assert_number(TooLarge, "count", 16, combine_problems,
                           many, Problem([("b", 2)], [(name, ["b"], []) for name in VARIABLE_NAMES]))

    def test_variables_that_both_have(self):
        other = Problem([("m", 2), ("c", 2), ("b", 2)], [("y", ["m"], [])])
        self.assert_shared("c", demo(), other)
        self.assert_shared("a", demo(), demo())
        self.assert_shared("c", demo(), Problem([("c", 2)] + [(name, 2) for name in "ghijklm"]))

    def test_events_that_both_have(self):
        other = Problem([("m", 2), ("n", 2)], [("u", ["m"], []), ("y", ["m"], []), ("x", ["m"], [])])
        self.assert_shared("y", demo(), other)
        self.assert_shared("y", demo(), Problem([(name, 2) for name in "ghijklm"], [("y", ["g"], [])]))
        self.assertEqual(combine_problems(demo(), Problem([("x", 2)], [("a", ["x"], [])])).events(), ["x", "y", "a"])

    def assert_shared(self, name, one, other):
        with self.assertRaises(DuplicateName) as context:
            combine_problems(one, other)
        self.assertEqual(context.exception.name, name)

    def test_no_problem(self):
        for value in without_kind(Problem):
            self.assert_error(InvalidProblem, "value", value, combine_problems, value, demo())
            self.assert_error(InvalidProblem, "value", value, combine_problems, demo(), value)
            self.assert_error(InvalidProblem, "value", value, combine_problems, value, [])


if __name__ == "__main__":
    unittest.main()
