"""The largest sizes that the document allows: each single call returns within a second."""

import random

from resampler.counting import (count_tapes, heap_counts, heap_weight, independent_sets, list_heaps, signed_counts,
                                valid_probability, weights_by_size)
from resampler.errors import InvalidLine, TooLarge
from resampler.graphs import (Graph, check_certificate, dependency_graph, find_certificate, independence_value,
                              independent_name_sets, lower_bound)
from resampler.heaps import Heap, heap_of
from resampler.problems import (Problem, combine_problems, find_overlap, is_exclusive, shows_overlap,
                                valid_assignments, without_events)
from resampler.ratios import Ratio
from resampler.replay import build_sampler, check_run, consumed_values, first_difference, rewind_sampler
from resampler.sampler import Sampler, choose_last, round_robin, run_sampler
from resampler.session import Session
from resampler.tables import Table, build_table, check_table, find_dependence, table_of
from resampler.textio import (graph_text, history_text, parse_graph, parse_history, parse_problem, parse_tapes,
                              problem_text, tapes_text)
from resampler.trees import check_tree, fits_tapes, tree_values, witness_tree, witness_trees
from tests.support import (EVENT_NAMES, VARIABLE_NAMES, PackageTest, largest_exclusive, largest_problem, made_exclusive,
                           pieces_of, random_graph, rows_of)


def largest_problems():
    return [largest_problem(), largest_exclusive(), made_exclusive(largest_problem())]


def single_events(count):
    """Return a problem with events of which no two are adjacent."""
    names = VARIABLE_NAMES[:count]
    return Problem([(name, 6) for name in names], [(name, [name], [(value,) for value in range(6)]) for name in names])


def gate(count=7):
    """Return a problem in which the last event is adjacent to all others, which are apart."""
    names = VARIABLE_NAMES[:count]
    single = [(name, [name], [(0,), (1,)]) for name in names[:4]]
    return Problem([(name, 6) for name in names], single + [("gate", names[:4], [(5, 4, 3, 2), (0, 0, 0, 0)])])


class Problems(PackageTest):
    def test_sizes(self):
        for problem in largest_problems()[:2]:
            self.assertEqual([len(problem), {size for _, size in problem.variables()}], [8, {6}])
            for _, scope, bad_tuples in rows_of(problem):
                self.assertEqual([len(scope), len(bad_tuples)], [4, 12])

    def test_reading(self):
        for problem in largest_problems():
            self.assertEqual(self.timed(Problem, problem.variables(), rows_of(problem)), problem)
            self.assertEqual(self.timed(problem.assignment_count), 6 ** 8)
            for assignment in ((0,) * 8, (5,) * 8, (0, 0, 5, 0, 0, 2, 0, 0)):
                found = self.timed(problem.occurring, assignment)
                self.assertEqual(found, [event for event in EVENT_NAMES if problem.occurs(event, assignment)])
            for event in EVENT_NAMES:
                self.timed(problem.neighbors, event)
                self.timed(problem.probability, event)

    def test_overlaps(self):
        wide, narrow, other = largest_problems()
        self.assertIs(shows_overlap(wide, self.timed(find_overlap, wide)), True)
        for problem in (narrow, other):
            self.assertIsNone(self.timed(find_overlap, problem))
            self.assertIs(self.timed(is_exclusive, problem), True)

    def test_valid_assignments(self):
        variables = [(name, size) for name, size in zip(VARIABLE_NAMES, [2, 2, 2, 2, 4, 4, 4, 4])]
        events = []
        for place, name in enumerate(EVENT_NAMES):
            scope = [VARIABLE_NAMES[(place + step) % 8] for step in (0, 1, 2, 3)]
            events.append((name, scope, [(at // 8, at // 4 % 2, at // 2 % 2, at % 2) for at in range(12)]))
        problem = Problem(variables, events)
        found = self.timed(valid_assignments, problem)
        self.assertEqual(problem.assignment_count(), 4096)
        self.assertEqual([len(found) > 0, [problem.occurring(one) for one in found]], [True, [[]] * len(found)])
        with self.assertRaises(TooLarge):
            self.timed(valid_assignments, largest_problem())

    def test_parts_and_sums(self):
        problem = largest_problem()
        self.assertEqual(self.timed(without_events, problem, EVENT_NAMES[1:]).events(), EVENT_NAMES[:1])
        halves = [Problem([(name, 6) for name in names], [(name, names, [(0, 1, 2, at) for at in range(6)])
                                                          for name in names])
                  for names in (VARIABLE_NAMES[:4], VARIABLE_NAMES[4:])]
        self.assertEqual(len(self.timed(combine_problems, *halves)), 8)


class Samplers(PackageTest):
    def samplers(self):
        source = random.Random(70)
        for problem in largest_problems():
            tapes = {name: [source.randrange(6) for _ in range(25)] for name in VARIABLE_NAMES}
            yield Sampler(problem, tapes)
            yield Sampler(problem, {name: [0] * 25 for name in VARIABLE_NAMES})

    def test_runs(self):
        for sampler in self.samplers():
            for choose in (None, choose_last, round_robin(), random.Random(71).choice):
                copy = self.timed(sampler.copied)
                steps = self.timed(run_sampler, copy, choose)
                self.assertEqual([steps, copy.ready()], [len(copy), []])
                self.assertEqual(self.timed(heap_of, copy).dropped("a"), copy.dropped("a"))
                while len(copy):
                    self.timed(copy.undo)
                self.assertEqual(copy, sampler)

    def test_longest_run(self):
        problem = single_events(5)
        sampler = Sampler(problem, {name: [1, 2, 3, 4, 5] * 8 for name in "abcde"})
        self.assertEqual(self.timed(run_sampler, sampler), 195)
        self.assertEqual([len(sampler.history()), sampler.is_stuck(), len(sampler.dropped("e"))], [195, True, 39])
        heap = self.timed(heap_of, sampler)
        self.assertEqual([len(heap.layers()), len(heap.top())], [39, 5])
        again = Sampler(problem, {name: [1, 2, 3, 4, 5] * 8 for name in "abcde"})
        self.timed(run_sampler, again, choose_last)
        self.assertEqual(self.timed(heap_of, again), heap)


class Heaps(PackageTest):
    def histories(self):
        source = random.Random(72)
        for problem in largest_problems() + [single_events(8), gate()]:
            pieces = pieces_of(problem)
            yield problem, [source.choice(pieces) for _ in range(240)]
            yield problem, [pieces[0]] * 240

    def test_heaps(self):
        for problem, history in self.histories():
            heap = self.timed(Heap, problem, history)
            self.assertEqual([self.timed(len, heap), len(self.timed(heap.pieces))], [240, 240])
            self.assertIs(self.timed(heap.is_order, history), True)
            self.assertIs(self.timed(heap.is_order, heap.pieces()), True)
            self.assertEqual(sum([len(layer) for layer in self.timed(heap.layers)]), 240)
            self.assertEqual(self.timed(str, heap).count(":"), 240)
            self.assertEqual(self.timed(heap.reversed_heap).reversed_heap(), heap)
            self.assertIs(self.timed(heap.is_lower_part_of, heap), True)
            half = Heap(problem, history[:120])
            self.assertEqual(self.timed(half.concatenated, Heap(problem, history[120:])), heap)
            self.assertIs(self.timed(half.is_lower_part_of, heap), True)
            self.assertIs(self.timed(heap.is_lower_part_of, half), False)
            piece = self.timed(heap.top)[-1]
            self.assertEqual(self.timed(self.timed(heap.without_top, piece).with_piece, piece), heap)
            for name, _ in problem.variables():
                self.timed(heap.dropped, name)

    def test_most_orders(self):
        problem = single_events(8)
        chain = [("a", (0,))] * 238
        self.assertEqual(len(self.timed(Heap(problem, chain + [("b", (0,))]).orders)), 239)
        self.assertEqual(len(self.timed(Heap(problem, chain).orders)), 1)
        for history in (chain + [("b", (0,)), ("c", (0,))], [(name, (1,)) for name in VARIABLE_NAMES] * 30,
                        [("a", (1,))] * 120 + [("b", (5,))] * 120):
            with self.assertRaises(TooLarge) as context:
                self.timed(Heap(problem, history).orders)
            self.assertEqual(context.exception.count, 501)

    def test_orders_that_part_early_or_late(self):
        problem = gate()
        chain, apart = [("gate", (0, 0, 0, 0))], [(name, (1,)) for name in "abcd"]
        for history, count in [(apart + chain * 236, 24), (chain * 236 + apart, 24), (apart + chain * 233 + apart[:3], 144),
                               (apart + chain * 231 + apart[:3] + chain + apart[1:2], 144),
                               (apart + chain * 232 + apart[:3] + chain, 144),
                               (apart[:3] + chain * 230 + apart[:3] + chain + apart[1:3], 72),
                               (apart[:2] + (chain + apart[:2]) * 7 + chain * 217, 256)]:
            found = self.timed(Heap(problem, history).orders)
            self.assertEqual([len(found), len({tuple(one) for one in found})], [count, count])
        found = self.timed(Heap(problem, apart[:4] + chain * 100 + apart[:3] + chain * 130 + apart[:2]).orders, limit=288)
        self.assertEqual(len(found), 288)
        with self.assertRaises(TooLarge) as context:
            self.timed(Heap(problem, apart + chain * 231 + apart + chain).orders, limit=500)
        self.assertEqual(context.exception.count, 501)


class Replay(PackageTest):
    def test_longest_runs(self):
        problem = single_events(5)
        tapes = {name: [1, 2, 3, 4, 5] * 8 for name in "abcde"}
        sampler = Sampler(problem, tapes)
        run_sampler(sampler, round_robin())
        heap, ending = heap_of(sampler), sampler.assignment()
        self.assertEqual(self.timed(consumed_values, heap, ending), tapes)
        self.assertEqual(self.timed(build_sampler, heap, ending), Sampler(problem, tapes))
        self.assertIs(self.timed(check_run, problem, tapes, sampler.history(), ending), True)
        self.assertIs(self.timed(check_run, problem, tapes, sampler.history() * 20, ending), False)
        self.assertEqual(self.timed(rewind_sampler, sampler), Sampler(problem, tapes))
        other = Sampler(problem, tapes)
        run_sampler(other, choose_last)
        self.assertEqual(self.timed(first_difference, sampler, other), ("history", 0))
        other = Sampler(problem, {**tapes, "e": tapes["e"][:39]})
        self.assertEqual(self.timed(first_difference, rewind_sampler(sampler), other), ("remaining", "e"))

    def test_largest_heaps(self):
        source = random.Random(73)
        for problem in largest_problems():
            pieces = pieces_of(problem)
            for history in ([source.choice(pieces) for _ in range(240)], [pieces[0]] * 240):
                heap = Heap(problem, history)
                self.assertEqual(len(self.timed(consumed_values, heap, (5,) * 8)), 8)
                with self.assertRaises(TooLarge):
                    self.timed(build_sampler, heap, (5,) * 8)


class Counting(PackageTest):
    def test_counts(self):
        for problem in largest_problems() + [single_events(8), gate()]:
            sets = self.timed(independent_sets, problem)
            signed, counts = self.timed(signed_counts, problem), self.timed(heap_counts, problem)
            self.assertEqual([len(counts), counts[1]], [13, len(pieces_of(problem))])
            self.assertEqual(len(signed), len(sets[-1]) + 1)
            for size, total in enumerate(self.timed(weights_by_size, problem)):
                self.assertEqual([total.sign(), counts[size] > 0], [1, True])
        self.assertEqual(len(self.timed(independent_sets, single_events(8))), 256)

    def test_lists(self):
        two = Problem([(name, 6) for name in VARIABLE_NAMES], [("x", VARIABLE_NAMES[:4], [(0, 0, 0, 0)]),
                                                              ("y", VARIABLE_NAMES[4:], [(5, 5, 5, 5)])])
        self.assertEqual(len(self.timed(list_heaps, two, 12)), 13)
        three = Problem([("a", 6), ("b", 6), ("c", 6)], [(name, [name], [(0,)]) for name in "abc"])
        self.assertEqual(len(self.timed(list_heaps, three, 12)), 91)
        self.assertEqual(len(self.timed(list_heaps, largest_problem(), 1)), 96)
        wide = Problem([(name, 6) for name in VARIABLE_NAMES],
                       [(name, [name], [(value,) for value in range(2 if name == "h" else 3)]) for name in VARIABLE_NAMES])
        self.assertEqual(len(self.timed(list_heaps, wide, 2)), 298)
        with self.assertRaises(TooLarge):
            self.timed(list_heaps, largest_problem(), 12)

    def test_weights_and_probabilities(self):
        source = random.Random(74)
        for problem in largest_problems():
            pieces = pieces_of(problem)
            heap = Heap(problem, [source.choice(pieces) for _ in range(240)])
            self.assertEqual(self.timed(heap_weight, heap), Ratio(1, 1296 ** 240))
            if is_exclusive(problem):
                self.assertEqual(self.timed(valid_probability, problem).sign(), 1)
                self.assertEqual(self.timed(count_tapes, heap, {name: 25 for name in VARIABLE_NAMES}), 0)
                self.assertEqual(self.timed(count_tapes, Heap(problem), {name: 25 for name in VARIABLE_NAMES}), 6 ** 192)


class Graphs(PackageTest):
    def graphs(self):
        source = random.Random(75)
        yield Graph(EVENT_NAMES)
        yield dependency_graph(largest_problem())
        for share in (0.1, 0.3, 0.5, 0.7, 1):
            for _ in range(4):
                yield random_graph(source, 8, share)

    def test_certificates(self):
        source, big = random.Random(76), 10 ** 29
        for graph in self.graphs():
            self.timed(independent_name_sets, graph)
            for most in (9 * big, big):
                probabilities = {name: Ratio(source.randint(1, most), 9 * big + 7) for name in graph.names()}
                value = self.timed(independence_value, graph, probabilities)
                found = self.timed(find_certificate, graph, probabilities, order=source.sample(graph.names(), 8))
                self.assertIs(self.timed(check_certificate, graph, probabilities, found), True)
                if found[0] == "positive":
                    self.assertEqual(self.timed(lower_bound, graph, probabilities, found), value)


class Tables(PackageTest):
    def tables(self):
        source = random.Random(77)
        for most in (1, 5, 10 ** 30, 10 ** 400):
            weights = [source.randint(1, most) for _ in range(600)]
            yield Table(weights, [(name, source.sample(range(600), 300)) for name in EVENT_NAMES])
        yield Table([1] * 512 + [0] * 88, [(name, [at for at in range(512) if at >> place & 1])
                                           for place, name in enumerate(EVENT_NAMES)])

    def test_reading(self):
        for table in self.tables():
            self.assertEqual(self.timed(Table, table.weights(), table.events()), table)
            self.assertEqual([len(table), len(self.timed(table.events))], [600, 8])
            for name in EVENT_NAMES:
                self.timed(table.probability, name)
            self.timed(table.joint_probability, EVENT_NAMES)
            self.timed(table.none_probability)

    def test_dependences(self):
        found = [self.timed(find_dependence, table, Graph(EVENT_NAMES)) for table in self.tables()]
        self.assertEqual([one is None for one in found], [False] * 4 + [True])

    def test_tables_of_problems(self):
        problem = Problem(list(zip(VARIABLE_NAMES, [2, 2, 2, 3, 5, 5, 1, 1])),
                          [(name, VARIABLE_NAMES[at % 5:at % 5 + 4], [(0, 1, 0, 0), (1, 1, 1, 0)][:1])
                           for at, name in enumerate(EVENT_NAMES)])
        table = self.timed(table_of, problem)
        self.assertEqual([len(table), self.timed(find_dependence, table, dependency_graph(problem))], [600, None])

    def test_built_tables(self):
        source, big, seen = random.Random(78), 10 ** 29, 0
        for share in (0, 0.2, 0.4, 0.6, 0.8, 1):
            for most in (3 * big, 5 * big, 9 * big):
                graph = random_graph(source, 8, share)
                probabilities = {name: Ratio(source.randint(most // 2, most), 9 * big + 7) for name in graph.names()}
                probabilities[graph.names()[7]] = Ratio(1)
                value = find_certificate(graph, probabilities)
                table = self.timed(build_table, graph, probabilities, value)
                self.assertIs(self.timed(check_table, graph, probabilities, table), True)
                self.assertLessEqual(len(table), 512)
                seen = max(seen, len(table))
        self.assertGreater(seen, 100)


class Trees(PackageTest):
    def test_longest_histories(self):
        source = random.Random(79)
        for problem in largest_problems() + [gate()]:
            pieces, tapes = pieces_of(problem), {name: [0] * 25 for name, _ in problem.variables()}
            for history in ([source.choice(pieces) for _ in range(240)], [pieces[0]] * 240):
                rows = self.timed(witness_tree, problem, history, 239)
                trees = self.timed(witness_trees, problem, history)
                self.assertEqual([len(trees), trees[239]], [240, rows])
                self.assertIs(self.timed(check_tree, problem, history, 239, rows), True)
                self.assertIs(self.timed(check_tree, problem, history, 239, rows + rows[:1]), False)
                self.assertGreaterEqual(len(self.timed(tree_values, problem, rows)), len(rows))
                self.timed(fits_tapes, problem, tapes, rows)
            self.assertEqual(len(rows), 240)


class Texts(PackageTest):
    def test_longest_texts(self):
        source = random.Random(80)
        for problem in largest_problems():
            self.assertEqual(self.timed(parse_problem, self.timed(problem_text, problem)), problem)
            tapes = {name: [source.randrange(6) for _ in range(25)] for name in VARIABLE_NAMES}
            self.assertEqual(self.timed(parse_tapes, problem, self.timed(tapes_text, problem, tapes)), tapes)
            history = [source.choice(pieces_of(problem)) for _ in range(240)]
            self.assertEqual(self.timed(parse_history, problem, self.timed(history_text, problem, history)), history)
        graph = Graph(EVENT_NAMES, [(one, other) for at, one in enumerate(EVENT_NAMES) for other in EVENT_NAMES[:at]])
        self.assertEqual(self.timed(parse_graph, self.timed(graph_text, graph)), graph)

    def test_wrong_texts(self):
        for text in ("a" * 4000, " " * 4000, "\n" * 4000, "a\n" * 2000, "0 " * 2000, ":" * 4000, "variable a 2\n" * 307,
                     "tape a" + " 0" * 1997, "event x a : " + "0," * 1994, "name x\n" * 571, "x:" + "0" * 3998):
            for action in (parse_problem, parse_graph, lambda text: parse_tapes(largest_problem(), text),
                           lambda text: parse_history(largest_problem(), text)):
                with self.assertRaises(InvalidLine):
                    self.timed(action, text)


class Sessions(PackageTest):
    def test_six_samplers(self):
        source, names = random.Random(81), "pqrstu"
        for problem in largest_problems():
            session = Session()
            self.timed(session.execute, "problem " + problem_text(problem).replace("\n", " / "))
            for name in names:
                tapes = {variable: [source.randrange(6) for _ in range(25)] for variable in VARIABLE_NAMES}
                self.timed(session.execute, f"sampler {name} " + tapes_text(problem, tapes).replace("\n", " / "))
                self.timed(session.execute, f"run {name} turns 7")
            self.assertEqual(len(self.timed(session.execute, "samplers")), 6)
            for line in ("show", "counts 12", "bound", "state p", "history q", "heap r", "compare s t", "copy s z"):
                try:
                    self.timed(session.execute, line)
                except TooLarge:
                    self.assertEqual(line, "copy s z")
            self.timed(session.execute_all, ["show", "counts 12", "state p", "heap p"] * 10)
            self.assertEqual(session.names(), list(names))

    def test_longest_samplers(self):
        session = Session()
        session.execute("problem " + problem_text(single_events(5)).replace("\n", " / "))
        text = " / ".join([f"tape {name}" + " 0 1 2 3 4" * 8 for name in "abcde"])
        for name in "pqrstu":
            session.execute(f"sampler {name} {text}")
        answers = self.timed(session.execute_all, [f"run {name} turns {at}" for at, name in enumerate("pqrstu")])
        self.assertEqual(answers, [["195"]] * 6)
        for line in ("tree p 194", "heap q", "history r", "compare s t", "samplers"):
            self.timed(session.execute, line)
        self.timed(session.execute_all, [f"undo {name}" for name in "pqrstu"] * 6 + ["samplers", "heap p", "tree u 150"])
        self.assertEqual([len(session.sampler(name)) for name in "pu"], [189, 189])
