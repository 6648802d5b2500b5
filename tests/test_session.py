import random
import unittest

from resampler.counting import heap_counts, valid_probability
from resampler.errors import (DuplicateName, InvalidCommand, InvalidEvents, InvalidInteger, InvalidLine, InvalidProblem,
                              NotExclusive, NothingToUndo, NotOccurring, ResampleError, TapeExhausted, TooLarge,
                              UnknownEvent, UnknownName)
from resampler.graphs import dependency_graph, find_certificate, lower_bound
from resampler.heaps import heap_of
from resampler.problems import Problem, is_exclusive
from resampler.replay import first_difference
from resampler.sampler import Sampler, choose_last, round_robin, run_sampler
from resampler.session import Session
from resampler.textio import history_text, problem_text, tapes_text
from resampler.trees import witness_tree
from tests.samples import all_values, non_integers_from, non_lists
from tests.support import (PackageTest, demo, eventful_tapes, fresh, made_exclusive, names_of, pair, problems,
                           random_tapes)

DEMO = "problem variable a 2 / variable b 2 / variable c 2 / event x a b : 0,0 / event y b c : 1,1"
TAPES = {"a": [0, 1], "b": [0, 1, 0], "c": [1, 0]}
ADD = "tape a 0 1 / tape b 0 1 0 / tape c 1 0"
FORMS = ["problem variable a 1", "show", "counts 3", "valid", "bound", "sampler t " + ADD, "copy s t", "drop s",
         "samplers", "state s", "resample s y", "undo s", "run s", "run s last", "run s turns 0", "history s", "heap s",
         "tree s 0", "compare s s"]


def as_words(text):
    return text.replace("\n", " / ")


def demo_session(**more):
    """Return a session with a sampler of the demo problem that has made one step."""
    session = Session(**more)
    session.execute(DEMO)
    session.execute("sampler s " + ADD)
    session.execute("resample s x")
    return session


def demo_sampler():
    sampler = Sampler(demo(), TAPES)
    sampler.resample("x")
    return sampler


def shown(session):
    """Return all that a session shows of itself."""
    names = session.names()
    return [session.problem(), names, [session.sampler(name) for name in names], session.log()]


class SessionTest(PackageTest):
    def assert_refused(self, session, kind, field, held, line):
        """Check the exception of a line, and that it changes nothing."""
        before = shown(session)
        with self.assertRaises(kind) as context:
            session.execute(line)
        self.assertIs(type(context.exception), kind)
        if field is not None:
            self.assertEqual(getattr(context.exception, field), held)
            self.assertIs(type(getattr(context.exception, field)), type(held))
        self.assertEqual(shown(session), before)


class Building(SessionTest):
    def test_new_sessions(self):
        for session in (Session(), Session(max_samplers=1), Session(max_samplers=6)):
            self.assertEqual(shown(session), [None, [], [], []])
            self.assertIsNone(session.problem())

    def test_no_integers(self):
        for value in non_integers_from(1, 6):
            self.assert_error(InvalidInteger, "value", value, Session, max_samplers=value)
        with self.assertRaises(TypeError):
            Session(3)

    def test_equality(self):
        session = Session()
        self.assertIs(session == session, True)
        for value in all_values() + [Session()]:
            self.assertIs(session == value, False)
            self.assertIs(value == session, False)
        self.assertIsInstance(repr(session), str)

    def test_reading(self):
        session = demo_session()
        self.assertEqual([session.problem(), session.names(), session.log()], [demo(), ["s"], ["problem", "sampler", "resample"]])
        self.assertEqual(session.sampler("s"), demo_sampler())
        self.assertEqual(session.sampler(name="s"), demo_sampler())

    def test_samplers_are_copies(self):
        session = demo_session()
        run_sampler(session.sampler("s"))
        self.assertEqual(len(session.sampler("s")), 1)
        sampler = session.sampler("s")
        session.execute("undo s")
        self.assertEqual([len(sampler), len(session.sampler("s"))], [1, 0])

    def test_unknown_names(self):
        for value in all_values() + ["x", "S", "ss"]:
            self.assert_error(UnknownName, "name", value, demo_session().sampler, value)
            self.assert_error(UnknownName, "name", value, Session().sampler, value)

    def test_new_lists(self):
        session = demo_session()
        for action in (session.names, session.log):
            self.assert_new_lists(action)
        before = shown(session)
        session.names().append("t")
        session.log().clear()
        for line in ("show", "counts 2", "state s", "samplers", "history s"):
            self.assert_new_lists(lambda: session.execute(line))
        self.assertEqual(shown(session)[:3], before[:3])
        self.assert_new_lists(lambda: session.execute_all(["show", "valid"]))

    def test_sessions_share_nothing(self):
        one, other = demo_session(), demo_session()
        one.execute("run s")
        one.execute("copy s t")
        one.execute("problem variable a 1")
        self.assertEqual(shown(other), shown(demo_session()))


class Problems(SessionTest):
    def test_problem(self):
        session = Session()
        self.assertEqual(session.execute(DEMO), [])
        self.assertEqual([session.problem(), session.names()], [demo(), []])
        self.assertEqual(session.execute("show"), problem_text(demo()).split("\n"))

    def test_problem_removes_the_samplers(self):
        session = demo_session()
        session.execute("copy s t")
        self.assertEqual(session.execute(line=DEMO), [])
        self.assertEqual([session.names(), session.execute("samplers")], [[], []])
        session.execute("sampler s " + ADD)
        self.assertEqual(session.names(), ["s"])

    def test_any_problem(self):
        session = Session()
        for problem in problems(60, 140, variables=4, size=4, events=4):
            session.execute("problem " + as_words(problem_text(problem)))
            self.assertEqual(session.problem(), problem)
            self.assertEqual(session.execute("show"), problem_text(problem).split("\n"))

    def test_counts(self):
        session = demo_session()
        self.assertEqual([session.execute("counts 3"), session.execute("counts 0")], [["1 2 4 8"], ["1"]])
        self.assertEqual(session.execute("counts 12"), [" ".join([str(count) for count in heap_counts(demo())])])
        for number in (13, 999999):
            self.assert_refused(session, InvalidInteger, "value", number, f"counts {number}")

    def test_valid(self):
        session = Session()
        session.execute(DEMO)
        self.assertEqual(session.execute("valid"), ["1/2"])
        session.execute("problem variable a 2")
        self.assertEqual(session.execute("valid"), ["1"])
        session.execute("problem variable a 2 / event x a : 1 / event y a : 1")
        self.assert_refused(session, NotExclusive, "witness", ("x", "y", (1,)), "valid")

    def test_bound(self):
        session = Session()
        session.execute(DEMO)
        self.assertEqual(session.execute("bound"), ["positive 1/2"])
        session.execute("problem variable a 2 / event x a : 0 / event y a : 0 1 / event z a : 1")
        self.assertEqual(session.execute("bound"), ["not_positive -1/2"])
        session.execute("problem variable a 2 / event x a : 0 / event y a : 1 / event z a : 1")
        self.assertEqual(session.execute("bound"), ["not_positive 0"])
        session.execute("problem variable a 2 / variable b 2")
        self.assert_refused(session, InvalidEvents, "value", [], "bound")

    def test_valid_and_bound_of_any_problem(self):
        session, seen = Session(), []
        for problem in problems(80, 141) + [made_exclusive(problem) for problem in problems(80, 142)]:
            session.execute("problem " + as_words(problem_text(problem)))
            if is_exclusive(problem):
                self.assertEqual(session.execute("valid"), [str(valid_probability(problem))])
            if len(problem):
                graph = dependency_graph(problem)
                probabilities = {event: problem.probability(event) for event in problem.events()}
                value = find_certificate(graph, probabilities)
                rows = dict(value[2])
                last = max(rows, key=len) if value[0] == "positive" else self.end(graph, rows)
                self.assertEqual(session.execute("bound"), [f"{value[0]} {rows[last]}"])
                if value[0] == "positive":
                    self.assertEqual(rows[last], lower_bound(graph, probabilities, value))
                seen.append(value[0])
        self.assertGreater(min(seen.count("positive"), seen.count("not_positive")), 20)

    def end(self, graph, rows):
        names = graph.names()
        prefixes = [tuple(names[:count]) for count in range(1, len(names) + 1)]
        return [prefix for prefix in prefixes if prefix in rows and rows[prefix].sign() <= 0][0]


class Samplers(SessionTest):
    def test_sampler(self):
        session = demo_session()
        self.assertEqual(session.execute("sampler t tape a 0 / tape b 1 / tape c 1 0"), [])
        self.assertEqual(session.names(), ["s", "t"])
        self.assertEqual(session.sampler("t"), Sampler(demo(), {"a": [0], "b": [1], "c": [1, 0]}))

    def test_copy_and_drop(self):
        session = demo_session()
        self.assertEqual([session.execute("copy s c"), session.execute("copy s a"), session.names()], [[], [], ["s", "c", "a"]])
        session.execute("run a")
        self.assertEqual([len(session.sampler(name)) for name in session.names()], [1, 1, 2])
        self.assertEqual([session.execute("drop c"), session.names()], [[], ["s", "a"]])
        session.execute("copy a c")
        self.assertEqual([session.names(), len(session.sampler("c"))], [["s", "a", "c"], 2])
        session.execute("drop s")
        self.assertEqual(session.sampler("a"), session.sampler("c"))

    def test_samplers(self):
        session = demo_session()
        session.execute("copy s t")
        session.execute("run t")
        session.execute("sampler u tape a 0 / tape b 0 / tape c 1")
        self.assertEqual(session.execute("samplers"), ["s 1 open", "t 2 valid", "u 0 stuck"])
        self.assertEqual(Session().execute("samplers"), [])

    def test_state(self):
        session = demo_session()
        self.assertEqual(session.execute("state s"), ["1 1 1", "y", "y"])
        session.execute("run s")
        self.assertEqual(session.execute("state s"), ["1 0 0", "-", "-"])
        session.execute("sampler t tape a 0 / tape b 0 / tape c 1")
        self.assertEqual(session.execute("state t"), ["0 0 1", "x", "-"])
        session.execute("problem variable a 2 / variable b 2 / event x a : 1 / event y b : 1 / event z a b : 1,1")
        session.execute("sampler t tape a 1 0 / tape b 1")
        self.assertEqual(session.execute("state t"), ["1 1", "x y z", "x"])

    def test_resample_and_undo(self):
        session = demo_session()
        self.assertEqual([session.execute("resample s y"), session.sampler("s").history()],
                         [["y:1,1"], [("x", (0, 0)), ("y", (1, 1))]])
        self.assertEqual([session.execute("undo s"), session.execute("undo s")], [["y:1,1"], ["x:0,0"]])
        self.assertEqual(session.sampler("s"), Sampler(demo(), TAPES))
        self.assert_refused(session, NothingToUndo, None, None, "undo s")
        self.assert_refused(session, NotOccurring, "event", "y", "resample s y")
        self.assert_refused(session, UnknownEvent, "name", "a", "resample s a")
        self.assert_refused(session, UnknownEvent, "name", "abcdefgh", "resample s abcdefgh")
        session.execute("sampler t tape a 0 1 / tape b 0 / tape c 1")
        self.assert_refused(session, TapeExhausted, "variable", "b", "resample t x")

    def test_runs(self):
        wide = "problem variable a 2 / variable b 2 / variable c 2 / event x a : 1 / event y b : 1 / event z c : 1"
        tapes = {name: [1, 1, 1, 0] for name in "abc"}
        problem = Problem([(name, 2) for name in "abc"], [(name, [scope], [(1,)]) for name, scope in zip("xyz", "abc")])
        for line, choose in [("run s", None), ("run s last", choose_last), ("run s turns 0", round_robin()),
                             ("run s turns 1", round_robin(1)), ("run s turns 999999", round_robin(999999))]:
            session, sampler = Session(), Sampler(problem, tapes)
            session.execute_all([wide, "sampler s " + as_words(tapes_text(problem, tapes))])
            self.assertEqual(session.execute(line), [str(run_sampler(sampler, choose))])
            self.assertEqual(session.sampler("s"), sampler)
            self.assertEqual([session.execute(line), session.execute("samplers")], [["0"], ["s 9 valid"]])

    def test_each_run_of_turns_begins_anew(self):
        session = Session()
        session.execute_all(["problem variable a 2 / variable b 2 / event x a : 1 / event y b : 1",
                             "sampler s tape a 1 0 / tape b 1 0", "copy s t", "run s turns 1", "run t turns 1"])
        self.assertEqual([session.execute("history s"), session.execute("history t")], [["y:1", "x:1"]] * 2)

    def test_steps_of_a_run_are_those_of_this_run(self):
        session = demo_session()
        self.assertEqual([session.execute("run s"), len(session.sampler("s"))], [["1"], 2])

    def test_history_and_heap(self):
        session = demo_session()
        session.execute("run s")
        self.assertEqual([session.execute("history s"), session.execute("heap s")], [["x:0,0", "y:1,1"], ["x:0,0 | y:1,1"]])
        session.execute("sampler t tape a 1 / tape b 0 / tape c 0")
        self.assertEqual([session.execute("history t"), session.execute("heap t")], [[], []])

    def test_tree(self):
        session = demo_session()
        session.execute("run s")
        self.assertEqual([session.execute("tree s 1"), session.execute("tree s 0")],
                         [["0 y:1,1 -", "1 x:0,0 0"], ["0 x:0,0 -"]])
        for number in (2, 240, 999999):
            self.assert_refused(session, InvalidInteger, "value", number, f"tree s {number}")
        session.execute("sampler t tape a 1 / tape b 0 / tape c 0")
        self.assert_refused(session, InvalidInteger, "value", 0, "tree t 0")

    def test_compare(self):
        session = demo_session()
        session.execute_all(["copy s t", "run t", "sampler u tape a 0 0 / tape b 0 1 0 / tape c 1 0", "sampler v " + ADD + " 1"])
        for line, answer in [("compare s s", "equal"), ("compare s t", "history 1"), ("compare t s", "history 1"),
                             ("compare s u", "history 0"), ("compare u v", "remaining a")]:
            self.assertEqual(session.execute(line), [answer])
        session.execute("sampler w tape a 1 / tape b 0 1 0 / tape c 1 0")
        self.assertEqual(session.execute("compare v w"), ["current a"])

    def test_random_samplers(self):
        source, session = random.Random(143), Session()
        for problem in problems(60, 143):
            tapes = eventful_tapes(source, problem)
            session.execute("problem " + as_words(problem_text(problem)))
            session.execute("sampler s " + as_words(tapes_text(problem, tapes)))
            session.execute("sampler t " + as_words(tapes_text(problem, random_tapes(source, problem))))
            first, second = Sampler(problem, tapes), session.sampler("t")
            self.assertEqual(session.execute("run s turns 2"), [str(run_sampler(first, round_robin(2)))])
            self.assertEqual(session.sampler("s"), first)
            history = first.history()
            self.assertEqual(session.execute("history s"), history_text(problem, history).split("\n") if history else [])
            self.assertEqual(session.execute("heap s"), [str(heap_of(first))] if history else [])
            rest = ["valid" if first.is_valid() else "stuck" if first.is_stuck() else "open"]
            self.assertEqual(session.execute("samplers")[0], " ".join(["s", str(len(first))] + rest))
            self.assertEqual(session.execute("state s"), [
                " ".join([str(value) for value in first.assignment()]), " ".join(first.occurring()) or "-",
                " ".join(first.ready()) or "-"])
            found = first_difference(first, second)
            self.assertEqual(session.execute("compare s t"), ["equal" if found is None else f"{found[0]} {found[1]}"])
            for step in range(len(history)):
                rows = [" ".join([str(depth), event + ":" + ",".join([str(value) for value in values]),
                                  "-" if parent is None else str(parent)])
                        for depth, event, values, parent in witness_tree(problem, history, step)]
                self.assertEqual(session.execute(f"tree s {step}"), rows)


class Texts(SessionTest):
    def test_slashes(self):
        session = demo_session()
        for line, index in [("problem /", 0), ("problem / /", 0), ("problem variable a 2 /", 1), ("problem / variable a 2", 0),
                            ("problem variable a 2 / / variable b 2", 1), ("problem variable a 2/ variable b 2", 0),
                            ("problem variable a 2 / variable b 2 / event", 2), ("problem ?", 0), ("problem a", 0),
                            ("problem variable a 2 / event x a : 0 / variable b 2", 2), ("problem problem", 0),
                            ("sampler t /", 0), ("sampler t tape a 0 / tape b 0", 2), ("sampler t ?", 0),
                            ("sampler t " + ADD + " /", 3), ("sampler t / " + ADD, 0), ("sampler t tape a 0 / / tape b 0", 1),
                            ("sampler t tape a 0 / tape b 2 / tape c 0", 1), ("sampler t tape a 0 / tape c 0", 1),
                            ("sampler t t", 0), ("sampler t sampler t", 0)]:
            self.assert_refused(session, InvalidLine, "index", index, line)

    def test_too_many_values(self):
        session = Session()
        session.execute("problem " + " / ".join([f"variable {name} 2" for name in "abcdefgh"]))
        tapes = [f"tape {name}" + " 1" * 25 for name in "abcdefgh"]
        self.assert_refused(session, InvalidLine, "index", 7, "sampler s " + " / ".join(tapes) + " 0")
        session.execute("sampler s " + " / ".join(tapes))
        self.assertEqual(session.sampler("s").remaining("h"), [1] * 24)


class WrongCommands(SessionTest):
    def test_no_command(self):
        wrong = ["problem", "show demo", "show /", "counts", "counts x", "counts 03", "counts -1", "counts 1000000", "counts 3 3",
                 "counts 3.0", "valid 1", "bound x", "sampler", "sampler t", "sampler T " + ADD, "sampler abcdefghi " + ADD,
                 "sampler 1 " + ADD, "sampler / " + ADD, "copy s", "copy s t u", "copy S t", "copy s T", "copy s 1", "copy 1 s",
                 "drop", "drop s s", "drop 1", "samplers s", "samplers 1", "state", "state s s", "state S", "resample s",
                 "resample s x y", "resample s X", "resample s 1", "resample x:0,0", "resample s x:0,0", "resample s abcdefghi",
                 "undo", "undo s 1", "undo 1", "run", "run s first", "run s last 1", "run s turns", "run s turns x",
                 "run s turns -1", "run s turns 01", "run s turns 1 2", "run s turns 1000000", "run S", "run s Last",
                 "run s turn 1", "run turns 1", "run s 1", "history", "history s s", "history S", "heap", "heap s 1", "heap 1",
                 "tree s", "tree 0", "tree s x", "tree s 0 0", "tree s 00", "tree s -1", "tree S 0", "tree s 1000000", "compare s",
                 "compare", "compare s t u", "compare s 1", "compare S s", "exit", "help", "commit", "begin", "rollback", "text",
                 "Show", "SHOW", "", " ", "\n", "/", "s", "log", "names", "NAME", "TEXT", "run NAME", "run s NAME"]
        session = demo_session()
        for line in wrong:
            self.assert_error(InvalidCommand, "value", line, session.execute, line)
            self.assert_error(InvalidCommand, "value", line, Session().execute, line)
        self.assertEqual(shown(session), shown(demo_session()))

    def test_spaces(self):
        session = demo_session()
        for form in FORMS:
            lines = [" " + form, form + " ", form + "\n", "\n" + form, form + "\n" + form, form[:1].upper() + form[1:]]
            if " " in form:
                lines += [form.replace(" ", "  ", 1), form.replace(" ", "\n", 1), form.replace(" ", " \n", 1)]
            for line in lines:
                self.assert_error(InvalidCommand, "value", line, session.execute, line)
        self.assert_error(InvalidCommand, "value", "problem  variable a 2", session.execute, "problem  variable a 2")
        line = "problem variable a 2 /  variable b 2"
        self.assert_error(InvalidCommand, "value", line, session.execute, line)
        line = "problem variable a 2\nvariable b 2"
        self.assert_error(InvalidCommand, "value", line, session.execute, line)
        self.assertEqual(shown(session), shown(demo_session()))

    def test_each_form(self):
        for form in FORMS:
            session = demo_session()
            session.execute(form)
            self.assertEqual(session.log()[3:], [form.split(" ")[0]])

    def test_no_string(self):
        session = demo_session()
        for value in all_values():
            self.assert_error(InvalidCommand, "value", value, session.execute, value)
        self.assertEqual(shown(session), shown(demo_session()))

    def test_no_problem(self):
        for form in FORMS:
            session = Session()
            if form.split(" ")[0] in ("problem", "samplers"):
                session.execute(form)
                continue
            with self.assertRaises(InvalidProblem) as context:
                session.execute(form)
            self.assertIsNone(context.exception.value)
            self.assertEqual(shown(session), [None, [], [], []])

    def test_names_from_left_to_right(self):
        session = demo_session(max_samplers=1)
        for line in ("state t", "drop t", "resample t q", "undo t", "run t", "run t last", "run t turns 3", "history t", "heap t",
                     "tree t 0", "compare t u", "compare t s", "compare s t", "copy t s", "copy t u", "copy t t"):
            self.assert_refused(session, UnknownName, "name", "t", line)
        for line in ("sampler s ?", "copy s s", "sampler s " + ADD):
            self.assert_refused(session, DuplicateName, "name", "s", line)
        # The names of events and variables are others.
        self.assert_refused(session, UnknownName, "name", "x", "state x")

    def test_number_of_samplers(self):
        for most in range(1, 7):
            session = demo_session(max_samplers=most)
            for name in "abcdef"[:most - 1]:
                session.execute(f"copy s {name}")
            self.assertEqual(len(session.names()), most)
            for line in ("copy s t", "sampler t " + ADD, "sampler t ?", "sampler t /"):
                self.assert_refused(session, TooLarge, "count", most + 1, line)
            self.assert_refused(session, DuplicateName, "name", "s", "copy s s")
            self.assert_refused(session, UnknownName, "name", "u", "copy u t")
            session.execute("drop s")
            session.execute("sampler t " + ADD)
        session = Session()
        session.execute(DEMO)
        for name in "abcdef":
            session.execute(f"sampler {name} " + ADD)
        self.assert_refused(session, TooLarge, "count", 7, "copy a g")


class Groups(SessionTest):
    def test_example(self):
        session = Session()
        self.assertEqual(session.execute_all(["problem variable a 2 / event x a : 0", "sampler s tape a 0 0 1", "run s", "state s"]),
                         [[], [], ["2"], ["1", "-", "-"]])
        self.assertEqual([session.execute("undo s"), session.execute("samplers")], [["x:0"], ["s 1 open"]])
        self.assertEqual(session.log(), ["begin", "problem", "sampler", "run", "state", "commit", "undo", "samplers"])

    def test_no_lines(self):
        for lines in ([], ()):
            session = demo_session()
            self.assertEqual(session.execute_all(lines=lines), [])
            self.assertEqual(session.log()[3:], ["begin", "commit"])
            self.assertEqual(shown(session)[:3], shown(demo_session())[:3])

    def test_tuples(self):
        self.assertEqual(demo_session().execute_all(("valid", "samplers")), [["1/2"], ["s 1 open"]])

    def test_a_line_that_fails(self):
        good = ["run s", "copy s t", "undo t", "drop s", "sampler u " + ADD, "problem variable a 1", "sampler s tape a 0", "show"]
        for count in range(len(good) + 1):
            for line, kind in [("?", InvalidCommand), (None, InvalidCommand), (5, InvalidCommand), ([], InvalidCommand),
                               ("state q", UnknownName), ("counts 13", InvalidInteger), ("problem /", InvalidLine),
                               ("resample q x", UnknownName)]:
                session = demo_session()
                session.execute("copy s k")
                before = shown(session)
                with self.assertRaises(kind) as context:
                    session.execute_all(good[:count] + [line] + ["show"])
                self.assertIs(type(context.exception), kind)
                if kind is InvalidCommand:
                    self.assertIs(context.exception.value, line)
                words = [one.split(" ")[0] for one in good[:count]]
                self.assertEqual(shown(session), before[:3] + [before[3] + ["begin"] + words + ["rollback"]])

    def test_each_base_of_exceptions(self):
        for line, kind in [("undo s", NothingToUndo), ("resample s q", UnknownEvent), ("tree s 7", InvalidInteger),
                           ("resample s y", NotOccurring)]:
            session = demo_session()
            session.execute("undo s")
            before = shown(session)
            with self.assertRaises(kind):
                session.execute_all(["run s", "undo s", "undo s", line])
            words = ["begin", "run", "undo", "undo", "rollback"]
            self.assertEqual(shown(session), before[:3] + [before[3] + words])

    def test_order_of_the_names_comes_back(self):
        session = demo_session()
        session.execute_all(["copy s b", "copy s a"])
        with self.assertRaises(ResampleError):
            session.execute_all(["drop s", "copy a s", "drop b", "run a", "?"])
        self.assertEqual(session.names(), ["s", "b", "a"])
        self.assertEqual([len(session.sampler(name)) for name in "sba"], [1, 1, 1])

    def test_problem_comes_back(self):
        session = Session()
        with self.assertRaises(InvalidLine):
            session.execute_all([DEMO, "sampler s " + ADD, "problem ?"])
        self.assertEqual(shown(session), [None, [], [], ["begin", "problem", "sampler", "rollback"]])

    def test_later_commands_go_on(self):
        session = demo_session()
        with self.assertRaises(InvalidCommand):
            session.execute_all(["run s", "?"])
        session.execute("run s")
        self.assertEqual(session.execute("history s"), ["x:0,0", "y:1,1"])
        with self.assertRaises(InvalidCommand):
            session.execute_all(["undo s", "?"])
        self.assertEqual(session.execute("history s"), ["x:0,0", "y:1,1"])

    def test_no_list(self):
        session = demo_session()
        for value in non_lists() + [["show"] * 41, [None] * 41, ("show",) * 50, "show"]:
            self.assert_error(InvalidCommand, "value", value, session.execute_all, value)
        self.assertEqual(shown(session), shown(demo_session()))
        self.assertEqual(session.execute_all(["valid"] * 40), [["1/2"]] * 40)

    def test_lines_stay_as_they_are(self):
        lines = ["valid", "run s"]
        demo_session().execute_all(lines)
        self.assertEqual(lines, ["valid", "run s"])

    def test_items_are_checked_when_they_are_executed(self):
        session, line = Session(), fresh("??")
        with self.assertRaises(InvalidProblem):
            session.execute_all(["samplers", "show", line])
        with self.assertRaises(InvalidCommand) as context:
            session.execute_all([DEMO, "show", line, "show"])
        self.assertIs(context.exception.value, line)
        self.assertEqual(session.log(), ["begin", "samplers", "rollback", "begin", "problem", "show", "rollback"])


class Log(SessionTest):
    def test_first_words(self):
        session = Session()
        session.execute("samplers")
        session.execute(DEMO)
        for form in FORMS[1:6]:
            session.execute(form)
        with self.assertRaises(UnknownName):
            session.execute("state q")
        with self.assertRaises(InvalidCommand):
            session.execute("?")
        self.assertEqual(session.log(), ["samplers", "problem", "show", "counts", "valid", "bound", "sampler"])

    def test_names_and_pairs(self):
        session = Session()
        session.execute("problem " + as_words(problem_text(pair())))
        session.execute("sampler sampler tape a 1 0 / tape b 1 0")
        session.execute("copy sampler copy")
        self.assertEqual([session.names(), session.execute("run copy last")], [["sampler", "copy"], ["2"]])
        self.assertEqual([names_of(session.problem()), session.log()], [["a", "b"], ["problem", "sampler", "copy", "run"]])


if __name__ == "__main__":
    unittest.main()
