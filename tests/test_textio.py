import random
import unittest

from resampler.errors import (InvalidGraph, InvalidHistory, InvalidLine, InvalidPieces, InvalidProblem, InvalidTapes,
                              InvalidText, TooLarge)
from resampler.graphs import Graph
from resampler.problems import Problem
from resampler.textio import (graph_text, history_text, parse_graph, parse_history, parse_problem, parse_tapes,
                              problem_text, tapes_text)
from tests.samples import all_values, non_lists, without_kind
from tests.support import (EVENT_NAMES, VARIABLE_NAMES, PackageTest, demo, graphs_with_probabilities, largest_problem,
                           long_names, pair, path, problems, random_history, random_tapes)

X, Y = ("x", (0, 0)), ("y", (1, 1))
TAPES = {"a": [0, 1], "b": [1], "c": [0, 0, 1]}
DEMO = "variable a 2\nvariable b 2\nvariable c 2\nevent x a b : 0,0\nevent y b c : 1,1"


def non_strings():
    return [value for value in all_values() if not isinstance(value, str)]


def spoiled(line):
    """Return lines that differ from a line of two or more words in their spaces only, and so are invalid."""
    return ["", " ", " " + line, line + " ", line.replace(" ", "  ", 1), line.replace(" ", "", 1), line.replace(" ", "\t", 1)]


class TextTest(PackageTest):
    def assert_line(self, index, action, *lines):
        """Check that a text of these lines is invalid, first in the line with an index."""
        self.assert_number(InvalidLine, "index", index, action, "\n".join(lines))

    def assert_only_text(self, action):
        for value in non_strings():
            self.assert_error(InvalidText, "value", value, action, value)


class ProblemText(TextTest):
    def test_example(self):
        self.assertEqual(problem_text(demo()), DEMO)
        self.assertEqual(problem_text(problem=demo()).split("\n"), DEMO.split("\n"))

    def test_lines(self):
        self.assertEqual(problem_text(long_names()), "variable left 2\nvariable right 3\nevent both right left : 0,0 2,1\n"
                         "event low left : 1\nevent never right :")
        self.assertEqual(problem_text(Problem([("a", 1)])), "variable a 1")
        self.assertEqual(problem_text(Problem([("a", 6)], [("a", ["a"], [(5,), (0,), (3,)])])),
                         "variable a 6\nevent a a : 0 3 5")

    def test_no_problem(self):
        for value in without_kind(Problem):
            self.assert_error(InvalidProblem, "value", value, problem_text, value)


class ParseProblem(TextTest):
    def test_what_is_written_is_read_back(self):
        for problem in problems(150, 130, variables=8, size=6, events=8) + [demo(), pair(), long_names(), largest_problem()]:
            self.assertEqual(parse_problem(problem_text(problem)), problem)
            self.assertEqual(problem_text(parse_problem(text=problem_text(problem))), problem_text(problem))

    def test_order_of_bad_tuples(self):
        found = parse_problem("variable a 3\nvariable b 2\nevent x b a : 1,2 0,1 1,0")
        self.assertEqual(found, Problem([("a", 3), ("b", 2)], [("x", ["b", "a"], [(0, 1), (1, 0), (1, 2)])]))

    def test_names_of_variables_and_events_may_be_equal(self):
        found = parse_problem("variable a 2\nvariable event 2\nevent a event a : 0,1\nevent event a :")
        self.assertEqual([found.events(), found.scope("a"), found.bad_tuples("event")], [["a", "event"], ["event", "a"], []])
        found = parse_problem("variable variable 2\nevent variable variable :")
        self.assertEqual(found, Problem([("variable", 2)], [("variable", ["variable"], [])]))

    def test_limits(self):
        lines = [f"variable {name} 6" for name in VARIABLE_NAMES]
        events = [f"event {name} a b c d : " + " ".join([f"{at % 6},{at // 6},0,5" for at in range(12)]) for name in EVENT_NAMES]
        found = parse_problem("\n".join(lines + events))
        self.assertEqual([len(found.variables()), len(found), len(found.bad_tuples("t"))], [8, 8, 12])
        self.assert_line(8, parse_problem, *lines, "variable i 6")
        self.assert_line(8, parse_problem, *lines, "variable i 6", *events)
        self.assert_line(16, parse_problem, *lines, *events, "event p a :")
        self.assert_line(8, parse_problem, *lines, "event x a b c d e : 0,0,0,0,0")
        self.assert_line(8, parse_problem, *lines, events[0] + " 5,5,5,5")
        self.assertEqual(parse_problem("variable abcdefgh 1").variables(), [("abcdefgh", 1)])

    def test_lines_of_variables(self):
        for line in ["variable", "variable b", "variable b 2 2", "variable B 2", "variable b1 2", "variable abcdefghi 2",
                     "variable b 0", "variable b 7", "variable b -1", "variable b 02", "variable b +2", "variable b two",
                     "variable b 2.0", "variable b 2,", "variable a 2", "variable a 3", "variable : 2", "Variable b 2",
                     "variables b 2", "b 2", "2", ":", "#", "name b", "tape b 0", "edge a b", "variable b 9999999",
                     "variable 2 b", "variable / 2", "variable b 2\r"] + spoiled("variable b 2"):
            for more in ([], ["variable c 2", "event x a : 0"], ["?"], [""]):
                self.assert_line(1, parse_problem, "variable a 2", line, *more)
                self.assert_line(2, parse_problem, "variable a 2", "variable d 3", line, *more)
            if line not in ("variable a 2", "variable a 3"):
                self.assert_line(0, parse_problem, line, "variable d 2")

    def test_lines_of_events(self):
        first = ["variable a 2", "variable b 3", "event x a : 1"]
        for line in ["event", "event y", "event y :", "event y : 0", "event y a", "event y a 0", "event : a : 0", "event Y a : 0",
                     "event abcdefghi a : 0", "event x a : 0", "event x b :", "event y d : 0", "event y A : 0",
                     "event y a a : 0,0", "event y a d : 0,0", "event y a : 2", "event y b : 3", "event y b a : 0,2",
                     "event y a b : 2,0", "event y a : 0,0", "event y a b : 0", "event y a b : 0,0,0", "event y a : 0 0",
                     "event y a b : 0,1 1,1 0,1", "event y a : -1", "event y a : 00", "event y a : 0,", "event y a : ,0",
                     "event y a : ,", "event y a b : 0,,1", "event y a b : 0, 1", "event y a b : 0 ,1", "event y a b : 0;1",
                     "event y a b : (0,1)", "event y a : : 0", "event y a : 0 :", "event y a: 0", "event y a :0",
                     "event y : a 0", "Event y a : 0", "event y a : x", "event y a : True", "event y 0 : 0",
                     "event y a b a : 0,0,0", "event y a : 99999999", "event y a : 0\r"] + spoiled("event y a : 0"):
            for more in ([], ["event z a : 0"], ["?"]):
                self.assert_line(3, parse_problem, *first, line, *more)
        self.assertEqual(len(parse_problem("\n".join(first + ["event y a : 0"]))), 2)

    def test_places_of_lines(self):
        self.assert_line(0, parse_problem, "event x a : 0", "variable a 2")
        self.assert_line(0, parse_problem, "event x a :")
        self.assert_line(2, parse_problem, "variable a 2", "event x a : 0", "variable b 2")
        self.assert_line(2, parse_problem, "variable a 2", "event x a : 0", "variable b 2", "event y b : 0")
        self.assert_line(1, parse_problem, "variable a 2", "event x a b : 0,0", "variable b 2")

    def test_empty_lines(self):
        for text, index in [("", 0), ("\n", 0), ("\n\n", 0), ("\n" + DEMO, 0), (DEMO + "\n", 5), (DEMO + "\n\n", 5),
                            (DEMO.replace("\n", "\n\n", 1), 1), (" ", 0), ("variable a 2\n", 1)]:
            self.assert_number(InvalidLine, "index", index, parse_problem, text)

    def test_example(self):
        self.assert_number(InvalidLine, "index", 1, parse_problem, "variable a 2\nevent x b : 1")

    def test_no_text(self):
        self.assert_only_text(parse_problem)


class TapesText(TextTest):
    def test_lines(self):
        self.assertEqual(tapes_text(demo(), TAPES), "tape a 0 1\ntape b 1\ntape c 0 0 1")
        turned = {"c": (0, 0, 1), "b": (1,), "a": (0, 1)}
        self.assertEqual(tapes_text(tapes=turned, problem=demo()), tapes_text(demo(), TAPES))

    def test_wrong_arguments(self):
        for value in without_kind(Problem):
            self.assert_error(InvalidProblem, "value", value, tapes_text, value, TAPES)
            self.assert_error(InvalidProblem, "value", value, tapes_text, value, 5)
        for value in all_values() + [{"a": [0], "b": [0]}, {"a": [0], "b": [], "c": [0]}, {"a": [0], "b": [True], "c": [0]},
                                     {"a": [0], "b": [2], "c": [0]}, "tape a 0"]:
            self.assert_error(InvalidTapes, "value", value, tapes_text, demo(), value)
        wide = Problem([(name, 2) for name in VARIABLE_NAMES])
        self.assert_number(TooLarge, "count", 208, tapes_text, wide, {name: [0] * 26 for name in VARIABLE_NAMES})


class ParseTapes(TextTest):
    def test_what_is_written_is_read_back(self):
        source = random.Random(131)
        for problem in problems(100, 131, variables=8, size=6, events=2):
            tapes = random_tapes(source, problem, longest=25)
            found = parse_tapes(problem, tapes_text(problem, tapes))
            self.assertEqual(found, tapes)
            self.assertEqual(list(found), [name for name, _ in problem.variables()])

    def test_example(self):
        found = parse_tapes(text="tape a 0 1\ntape b 1\ntape c 0 0 1", problem=demo())
        self.assertEqual([found, list(found)], [TAPES, ["a", "b", "c"]])
        self.assert_new_lists(lambda: parse_tapes(demo(), "tape a 0 1\ntape b 1\ntape c 0 0 1"))

    def test_limits(self):
        problem = Problem([("a", 6), ("b", 1)])
        lines = ["tape a" + " 5" * 40, "tape b" + " 0" * 40]
        self.assertEqual(parse_tapes(problem, "\n".join(lines)), {"a": [5] * 40, "b": [0] * 40})
        for line in ("tape a" + " 5" * 41, "tape a", "tape a" + " 6"):
            self.assert_line(0, lambda text: parse_tapes(problem, text), line, lines[1])
        self.assert_line(1, lambda text: parse_tapes(problem, text), lines[0], "tape b" + " 0" * 41)

    def test_number_of_values(self):
        problem = Problem([(name, 2) for name in VARIABLE_NAMES])

        def parse(text):
            return parse_tapes(problem, text)

        lines = [f"tape {name}" + " 1" * 25 for name in VARIABLE_NAMES]
        self.assertEqual(parse("\n".join(lines)), {name: [1] * 25 for name in VARIABLE_NAMES})
        self.assert_line(7, parse, *lines[:7], lines[7] + " 1")
        self.assert_line(7, parse, lines[0] + " 0", *lines[1:])
        long = [f"tape {name}" + " 0" * 40 for name in VARIABLE_NAMES]
        self.assert_line(5, parse, *long)
        self.assert_line(5, parse, *long[:5], "tape f 0", *lines[6:])
        self.assert_line(5, parse, *long[:5])

    def test_lines(self):
        def parse(text):
            return parse_tapes(demo(), text)

        good = ["tape a 0 1", "tape b 1", "tape c 0 0 1"]
        for line in ["tape", "tape b", "tape a 0", "tape c 0", "tape d 0", "tape B 0", "tape b 2", "tape b 0 2", "tape b -1",
                     "tape b 00", "tape b 01", "tape b 0,1", "tape b x", "tape b b", "tape x 0", "Tape b 0", "b 0", "tape 0 b",
                     "tape b 999999999", "tape b : 0", "tapes b 0", "tape b 1\r"] + spoiled("tape b 1"):
            for more in (good[2:], [], ["?"], good):
                self.assert_line(1, parse, good[0], line, *more)
        self.assert_line(0, parse, *good[::-1])
        self.assert_line(0, parse, good[1], good[0], good[2])

    def test_lines_that_lack_or_follow(self):
        def parse(text):
            return parse_tapes(demo(), text)

        self.assert_line(1, parse, "tape a 0")
        self.assert_line(2, parse, "tape a 0", "tape b 1")
        for line in ("", "tape d 0", "tape a 0", "?"):
            self.assert_line(3, parse, "tape a 0", "tape b 1", "tape c 0", line)
            self.assert_line(0, parse, line if line != "tape a 0" else "tape a 2")
        self.assert_line(2, parse, "tape a 0", "tape b 1", "")

    def test_order_of_checks(self):
        for value in without_kind(Problem):
            self.assert_error(InvalidProblem, "value", value, parse_tapes, value, "tape a 0")
            self.assert_error(InvalidProblem, "value", value, parse_tapes, value, 5)
        self.assert_only_text(lambda text: parse_tapes(demo(), text))


class HistoryText(TextTest):
    def test_lines(self):
        self.assertEqual(history_text(demo(), [X, Y, X]), "x:0,0\ny:1,1\nx:0,0")
        self.assertEqual(history_text(history=(X,), problem=demo()), "x:0,0")
        self.assertEqual(history_text(pair(), [("y", (1,))] * 2), "y:1\ny:1")
        self.assertEqual([history_text(demo(), []), history_text(demo(), ())], ["", ""])
        self.assertEqual(history_text(demo(), [X] * 240).count("x:0,0"), 240)

    def test_wrong_arguments(self):
        for value in without_kind(Problem):
            self.assert_error(InvalidProblem, "value", value, history_text, value, [X])
            self.assert_error(InvalidProblem, "value", value, history_text, value, 5)
        for value in non_lists() + [[X] * 241, (5,) * 250, "x:0,0"]:
            self.assert_error(InvalidPieces, "value", value, history_text, demo(), value)
        for value in all_values() + [("x", (1, 1)), ["x", (0, 0)], ("x", [0, 0]), ("x", (False, 0)), ("x", (0, 0), 0)]:
            self.assert_number(InvalidHistory, "index", 1, history_text, demo(), [X, value, None])


class ParseHistory(TextTest):
    def test_what_is_written_is_read_back(self):
        source = random.Random(132)
        for problem in problems(100, 132, variables=6, size=6, events=6) + [demo(), pair()]:
            history = random_history(source, problem, source.randint(0, 20))
            self.assertEqual(parse_history(problem, history_text(problem, history)), history)
        self.assert_new_lists(lambda: parse_history(demo(), "x:0,0\ny:1,1"))

    def test_examples(self):
        self.assertEqual(parse_history(text="x:0,0\ny:1,1", problem=demo()), [X, Y])
        self.assertEqual([parse_history(demo(), ""), parse_history(Problem([("a", 1)]), "")], [[], []])

    def test_number_of_lines(self):
        self.assertEqual(parse_history(demo(), "\n".join(["x:0,0"] * 240)), [X] * 240)
        for more in (["x:0,0"], ["?"], [""], ["y:1,1"] * 20):
            self.assert_line(240, lambda text: parse_history(demo(), text), *["x:0,0"] * 240, *more)

    def test_lines(self):
        def parse(text):
            return parse_history(demo(), text)

        for line in ["", " ", "x", "x:", ":", ":0,0", "x:0", "x:0,0,0", "x:0,1", "x:1,1", "y:0,0", "z:0,0", "a:0,0", "X:0,0",
                     "x:00,0", "x:0,00", "x:-0,0", "x: 0,0", "x :0,0", "x:0, 0", "x:0 0", " x:0,0", "x:0,0 ", "x:0,0,",
                     "x:,0", "x::0,0", "x:0:0", "x,0,0", "x:0;0", "x:(0,0)", "x:False,0", "x:0,2", "x:0,0 y:1,1", "x:0,0\r",
                     "x:99999999,0", "('x', (0, 0))"]:
            self.assert_line(1, parse, "x:0,0", line)
            self.assert_line(2, parse, "x:0,0", "y:1,1", line, "y:1,1", "?")
            if line != "":
                self.assert_line(0, parse, line, "?")
        for text, index in [("\n", 0), ("\nx:0,0", 0), ("x:0,0\n", 1), ("x:0,0\n\ny:1,1", 1)]:
            self.assert_number(InvalidLine, "index", index, parse, text)

    def test_problems_without_events(self):
        self.assert_number(InvalidLine, "index", 0, parse_history, Problem([("x", 1)]), "x:0")
        problem = Problem([("a", 2)], [("x", ["a"], [])])
        self.assert_number(InvalidLine, "index", 0, parse_history, problem, "x:0")

    def test_order_of_checks(self):
        for value in without_kind(Problem):
            self.assert_error(InvalidProblem, "value", value, parse_history, value, "")
            self.assert_error(InvalidProblem, "value", value, parse_history, value, 5)
        self.assert_only_text(lambda text: parse_history(demo(), text))


class GraphText(TextTest):
    def test_lines(self):
        self.assertEqual(graph_text(path()), "name x\nname y\nname z\nedge x y\nedge y z")
        self.assertEqual(graph_text(graph=Graph(["x"])), "name x")
        self.assertEqual(graph_text(Graph(["z", "x", "y"], [("x", "y"), ("y", "z")])),
                         "name z\nname x\nname y\nedge z y\nedge x y")

    def test_no_graph(self):
        for value in without_kind(Graph):
            self.assert_error(InvalidGraph, "value", value, graph_text, value)


class ParseGraph(TextTest):
    def test_what_is_written_is_read_back(self):
        for graph, _ in graphs_with_probabilities(80, 133, most=8):
            self.assertEqual(parse_graph(graph_text(graph)), graph)
        complete = Graph(EVENT_NAMES, [(one, other) for at, one in enumerate(EVENT_NAMES) for other in EVENT_NAMES[:at]])
        self.assertEqual(parse_graph(text=graph_text(complete)), complete)
        self.assertEqual(len(complete.edges()), 28)

    def test_order_of_edges(self):
        source = random.Random(134)
        for graph, _ in graphs_with_probabilities(40, 134):
            edges = [source.choice([f"edge {one} {other}", f"edge {other} {one}"]) for one, other in graph.edges()]
            lines = [f"name {name}" for name in graph.names()] + source.sample(edges, len(edges))
            self.assertEqual(parse_graph("\n".join(lines)), graph)
        self.assertEqual(parse_graph("name x\nname y\nedge y x").edges(), [("x", "y")])
        self.assertEqual(parse_graph("name name\nname edge\nedge edge name").edges(), [("name", "edge")])

    def test_lines_of_names(self):
        for line in ["name", "name y z", "name Y", "name abcdefghi", "name x", "name 1", "name y1", "Name y", "names y", "y",
                     "variable y 2", "event y", "name :", "name y\r"] + spoiled("name y"):
            for more in ([], ["name z", "edge x z"], ["?"]):
                self.assert_line(1, parse_graph, "name x", line, *more)
                self.assert_line(2, parse_graph, "name x", "name u", line, *more)
            if line != "name x":
                self.assert_line(0, parse_graph, line, "name u")

    def test_lines_of_edges(self):
        first = ["name x", "name y", "name z", "edge x y"]
        for line in ["edge", "edge x", "edge x y z", "edge x x", "edge y y", "edge x y", "edge y x", "edge x u", "edge u x",
                     "edge u v", "edge X y", "edge x Y", "Edge x z", "edge x,z", "edge x - z", "x z", "edge u u", "edge x z\r"] + (
                         spoiled("edge x z")):
            for more in ([], ["edge x z"], ["?"]):
                self.assert_line(4, parse_graph, *first, line, *more)
        self.assert_line(5, parse_graph, *first, "edge y z", "edge z y")
        self.assertEqual(len(parse_graph("\n".join(first + ["edge z x"])).edges()), 2)

    def test_places_of_lines(self):
        self.assert_line(0, parse_graph, "edge x y")
        self.assert_line(0, parse_graph, "edge x y", "name x", "name y")
        self.assert_line(3, parse_graph, "name x", "name y", "edge x y", "name z")
        self.assert_line(2, parse_graph, "name x", "name y", "edge x z", "name z")
        lines = [f"name {name}" for name in EVENT_NAMES]
        self.assertEqual(parse_graph("\n".join(lines)), Graph(EVENT_NAMES))
        for more in ([], ["edge x y"], ["?"]):
            self.assert_line(8, parse_graph, *lines, "name p", *more)

    def test_empty_lines(self):
        for text, index in [("", 0), ("\n", 0), ("name x\n", 1), ("\nname x", 0), ("name x\n\nname y", 1), (" ", 0)]:
            self.assert_number(InvalidLine, "index", index, parse_graph, text)

    def test_no_text(self):
        self.assert_only_text(parse_graph)


if __name__ == "__main__":
    unittest.main()
