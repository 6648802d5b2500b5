"""Promises over several modules together."""

import random

from resampler.counting import heap_counts, independent_sets, list_heaps, signed_counts, valid_probability, weights_by_size
from resampler.graphs import check_certificate, dependency_graph, find_certificate, lower_bound
from resampler.heaps import Heap, heap_of
from resampler.problems import Problem, find_overlap, is_exclusive, valid_assignments
from resampler.replay import build_sampler, check_run, consumed_values, first_difference
from resampler.sampler import Sampler, choose_last, round_robin, run_sampler
from resampler.session import Session
from resampler.tables import build_table, check_table, find_dependence, table_of
from resampler.textio import (graph_text, history_text, parse_graph, parse_history, parse_problem, parse_tapes,
                              problem_text, tapes_text)
from resampler.trees import fits_tapes, tree_values, witness_trees
from tests.support import (PackageTest, demo, eventful_tapes, graphs_with_probabilities, made_exclusive, names_of, pair,
                           problems, random_history, random_tapes, rows_of)


def all_endings(sampler):
    """Return for each sequence of choices a sampler at the end of the run."""
    ready = sampler.ready()
    if not ready:
        return [sampler.copied()]
    found = []
    for event in ready:
        sampler.resample(event)
        found.extend(all_endings(sampler))
        sampler.undo()
    return found


def outcome(sampler):
    dropped = [sampler.dropped(name) for name in names_of(sampler.problem())]
    return [heap_of(sampler), sampler.assignment(), dropped, sampler.is_valid(), sampler.is_stuck()]


def ring():
    """Return an exclusive problem in which each of four events is adjacent to two others."""
    return Problem([(name, 3) for name in "abcd"],
                   [("p", ["a", "b"], [(0, 1), (0, 2), (2, 1)]), ("q", ["b", "c"], [(0, 1), (0, 2)]),
                    ("r", ["c", "d"], [(0, 1), (0, 0)]), ("s", ["d", "a"], [(2, 1)])])


def exclusive_problems(count, seed):
    """Return exclusive problems, some of them with many runs from the same tapes."""
    found = [made_exclusive(problem) for problem in problems(count, seed)]
    return found + [demo(), pair(), ring()] * (count // 5)


def tapes_for(heap, assignment):
    """Return tapes with the values that the heap drops and then those of the assignment."""
    return {name: heap.dropped(name) + [value] for name, value in zip(names_of(heap.problem()), assignment)}


def rare_problems(count, seed):
    """Return problems whose events have at most one bad tuple, so that they can be avoided more often."""
    return [Problem(problem.variables(), [(event, scope, bad_tuples[:1]) for event, scope, bad_tuples in rows_of(problem)])
            for problem in problems(count, seed)]


class ExclusiveProblems(PackageTest):
    def test_all_runs_end_alike(self):
        source, kinds, most = random.Random(90), [], 0
        for problem in exclusive_problems(250, 90):
            self.assertIs(is_exclusive(problem), True)
            sampler = Sampler(problem, eventful_tapes(source, problem))
            endings = all_endings(sampler)
            for one in endings:
                self.assertEqual(outcome(one), outcome(endings[0]))
            orders = {tuple(one.history()) for one in endings}
            self.assertEqual(len(orders), len(endings))
            # The runs are all histories of the heap: whatever may come first can be chosen.
            self.assertEqual(sorted(orders), sorted([tuple(one) for one in heap_of(endings[0]).orders()]))
            kinds.append(endings[0].is_valid())
            most = max(most, len(endings))
        self.assertGreater(min(kinds.count(True), kinds.count(False), most), 20)

    def test_runs_with_choice_functions_end_alike(self):
        source = random.Random(91)
        for problem in exclusive_problems(100, 91):
            tapes = random_tapes(source, problem, longest=12)
            first = Sampler(problem, tapes)
            run_sampler(first)
            for choose in (choose_last, round_robin(), round_robin(3), source.choice, min, max):
                other = Sampler(problem, tapes)
                run_sampler(other, choose)
                self.assertEqual(outcome(other), outcome(first))

    def test_tapes_lead_to_heap_and_assignment(self):
        source, seen = random.Random(92), 0
        for problem in exclusive_problems(120, 92):
            for length in (0, 1, 3, 6):
                heap = Heap(problem, random_history(source, problem, length))
                for assignment in valid_assignments(problem)[:6]:
                    for one in all_endings(Sampler(problem, tapes_for(heap, assignment))):
                        self.assertEqual([heap_of(one), one.assignment(), one.is_valid()], [heap, assignment, True])
                        seen += 1
        self.assertGreater(seen, 1000)

    def test_further_values_change_nothing(self):
        source = random.Random(93)
        for problem in exclusive_problems(60, 93):
            heap = Heap(problem, random_history(source, problem, 5))
            for assignment in valid_assignments(problem)[:3]:
                more, tapes = random_tapes(source, problem), tapes_for(heap, assignment)
                sampler = Sampler(problem, {name: tapes[name] + more[name] for name in tapes})
                run_sampler(sampler, source.choice)
                self.assertEqual([heap_of(sampler), sampler.assignment()], [heap, assignment])

    def test_built_samplers_lead_to_heap_and_assignment(self):
        source, seen = random.Random(96), 0
        for problem in exclusive_problems(120, 96):
            heap = Heap(problem, random_history(source, problem, source.randint(0, 6)))
            for assignment in valid_assignments(problem)[:4]:
                more = {name: tape for name, tape in random_tapes(source, problem).items() if source.random() < 0.7}
                for extra in (None, {name: [] for name in more}, more):
                    sampler = build_sampler(heap, assignment, extra=extra)
                    for one in all_endings(sampler):
                        self.assertEqual([heap_of(one), one.assignment(), one.is_valid()], [heap, assignment, True])
                        seen += len(heap)
                    for choose in (None, choose_last, round_robin(1), source.choice):
                        one = sampler.copied()
                        self.assertEqual(run_sampler(one, choose), len(heap))
                        self.assertEqual([heap_of(one), one.assignment()], [heap, assignment])
        self.assertGreater(seen, 2000)

    def test_only_exclusive_problems_promise_it(self):
        problem = Problem([("a", 2)], [("x", ["a"], [(1,)]), ("y", ["a"], [(1,)])])
        endings = all_endings(Sampler(problem, {"a": [1, 0]}))
        self.assertEqual([str(heap_of(one)) for one in endings], ["x:1", "y:1"])


class AllProblems(PackageTest):
    def test_heap_and_assignment_determine_the_consumed_values(self):
        source = random.Random(94)
        for problem in problems(100, 94):
            tapes = random_tapes(source, problem, longest=9)
            sampler = Sampler(problem, tapes)
            run_sampler(sampler, source.choice, max_steps=source.randrange(9))
            consumed = tapes_for(heap_of(sampler), sampler.assignment())
            self.assertEqual(consumed, {name: tapes[name][:len(consumed[name])] for name in tapes})
            again = Sampler(problem, consumed)
            for event, values in source.choice(heap_of(sampler).orders()):
                self.assertEqual(again.resample(event), values)
            self.assertEqual([heap_of(again), again.assignment()], [heap_of(sampler), sampler.assignment()])
            self.assertEqual(consumed_values(heap_of(sampler), sampler.assignment()), consumed)
            self.assertIs(check_run(problem, consumed, again.history(), sampler.assignment()), True)

    def test_bounds_of_exclusive_problems(self):
        seen = 0
        for problem in exclusive_problems(60, 97):
            if len(problem):
                graph = dependency_graph(problem)
                probabilities = {event: problem.probability(event) for event in problem.events()}
                value = find_certificate(graph, probabilities)
                self.assertIs(check_certificate(graph, probabilities, value), True)
                if value[0] == "positive":
                    self.assertEqual(lower_bound(graph, probabilities, value), valid_probability(problem))
                    seen += 1
                else:
                    self.assertEqual(valid_assignments(problem), [])
        self.assertGreater(seen, 20)

    def test_bounds_hold_in_the_tables_of_problems(self):
        seen = []
        for problem in rare_problems(200, 98) + exclusive_problems(60, 99):
            if len(problem) == 0:
                continue
            graph, table = dependency_graph(problem), table_of(problem)
            probabilities = {event: problem.probability(event) for event in problem.events()}
            self.assertEqual([table.probability(event) for event in problem.events()], list(probabilities.values()))
            self.assertIsNone(find_dependence(table, graph))
            value = find_certificate(graph, probabilities)
            if value[0] == "positive":
                bound = lower_bound(graph, probabilities, value)
                self.assertIs(table.none_probability().less_than(bound), False)
                if is_exclusive(problem):
                    self.assertEqual(table.none_probability(), bound)
                    self.assertEqual(bound, valid_probability(problem))
                seen.append((is_exclusive(problem), table.none_probability() == bound))
        for kind in ((True, True), (False, False)):
            self.assertGreater(seen.count(kind), 20)

    def test_either_a_bound_or_a_table(self):
        verdicts = []
        for graph, probabilities in graphs_with_probabilities(120, 100):
            value = find_certificate(graph, probabilities)
            self.assertIs(check_certificate(graph, probabilities, value), True)
            verdicts.append(value[0])
            if value[0] == "positive":
                self.assertEqual(lower_bound(graph, probabilities, value).sign(), 1)
            else:
                self.assertIs(check_table(graph, probabilities, build_table(graph, probabilities, value)), True)
        self.assertGreater(min(verdicts.count("positive"), verdicts.count("not_positive")), 20)

    def test_trees_differ_and_fit_the_tapes(self):
        source, seen = random.Random(101), 0
        for problem in problems(100, 101):
            tapes = random_tapes(source, problem, longest=12)
            sampler = Sampler(problem, tapes)
            run_sampler(sampler, source.choice)
            trees = witness_trees(problem, sampler.history())
            self.assertEqual(len({tuple(rows) for rows in trees}), len(sampler))
            for rows in trees:
                self.assertIs(fits_tapes(problem, tapes, rows), True)
                for variable, position, value in tree_values(problem, rows):
                    self.assertEqual(sampler.dropped(variable)[position], value)
                    seen += 1
        self.assertGreater(seen, 500)

    def test_texts_are_read_back(self):
        source = random.Random(102)
        for problem in problems(80, 102, variables=6, size=6, events=6):
            tapes, history = random_tapes(source, problem), random_history(source, problem, 7)
            self.assertEqual(parse_problem(problem_text(problem)), problem)
            self.assertEqual(parse_tapes(problem, tapes_text(problem, tapes)), tapes)
            self.assertEqual(parse_history(problem, history_text(problem, history)), history)
            if len(problem):
                self.assertEqual(parse_graph(graph_text(dependency_graph(problem))), dependency_graph(problem))

    def test_sessions_say_what_the_functions_return(self):
        source = random.Random(103)
        for problem in problems(60, 103):
            session, tapes = Session(), eventful_tapes(source, problem)
            text = tapes_text(problem, tapes).replace("\n", " / ")
            session.execute_all(["problem " + problem_text(problem).replace("\n", " / "), "sampler s " + text, "run s last"])
            sampler = Sampler(problem, tapes)
            run_sampler(sampler, choose_last)
            self.assertEqual([session.problem(), session.sampler("s")], [problem, sampler])
            self.assertEqual(parse_history(problem, "\n".join(session.execute("history s"))), sampler.history())

    def test_renaming_changes_the_names_only(self):
        source = random.Random(95)
        for problem in problems(100, 95):
            names = dict(zip(names_of(problem), ["zz", "m", "abcdefgh", "k"]))
            events = dict(zip(problem.events(), ["r", "ee", "d", "a"]))
            other = Problem([(names[name], size) for name, size in problem.variables()],
                            [(events[event], [names[name] for name in scope], bad_tuples)
                             for event, scope, bad_tuples in rows_of(problem)])
            overlap = find_overlap(problem)
            if overlap is not None:
                overlap = (events[overlap[0]], events[overlap[1]], overlap[2])
            self.assertEqual(find_overlap(other), overlap)
            self.assertEqual(valid_assignments(other), valid_assignments(problem))
            tapes = random_tapes(source, problem)
            one, two = Sampler(problem, tapes), Sampler(other, {names[name]: tapes[name] for name in tapes})
            self.assertEqual(run_sampler(one, round_robin(1)), run_sampler(two, round_robin(1)))
            self.assertEqual(two.history(), [(events[event], values) for event, values in one.history()])
            self.assertEqual([two.assignment(), two.is_valid()], [one.assignment(), one.is_valid()])
            self.assertEqual(heap_of(two).layers(), [[(events[event], values) for event, values in layer]
                                                     for layer in heap_of(one).layers()])
            self.assertEqual(independent_sets(other), [tuple([events[event] for event in chosen])
                                                       for chosen in independent_sets(problem)])
            for action in (signed_counts, heap_counts, weights_by_size):
                self.assertEqual(action(other), action(problem))
            self.assertEqual([[(events[event], values) for event, values in heap.pieces()]
                              for heap in list_heaps(problem, 1)], [heap.pieces() for heap in list_heaps(other, 1)])
            self.assertEqual(first_difference(two, Sampler(other, {names[name]: tapes[name] for name in tapes})),
                             first_difference(one, Sampler(problem, tapes)))
            if len(problem):
                self.assertEqual(dependency_graph(other).edges(), [(events[first], events[second]) for first, second
                                                                   in dependency_graph(problem).edges()])
                self.assertEqual(table_of(other).events(), [(events[event], outcomes)
                                                            for event, outcomes in table_of(problem).events()])
            self.assertEqual(witness_trees(other, two.history()), [
                [(depth, events[event], values, parent) for depth, event, values, parent in rows]
                for rows in witness_trees(problem, one.history())])
