"""Texts of problems, tapes, histories and graphs: written and read back."""

from resampler.errors import InvalidLine, InvalidText, MissingError, ResampleError
from resampler.graphs import Graph, check_graph
from resampler.heaps import MOST_PIECES, check_history, piece_text
from resampler.problems import Problem, check_problem
from resampler.sampler import MOST_VALUES, MOST_VALUES_OF_TAPE, Sampler
from resampler.validation import parse_integer, split_words


def problem_text(problem):
    """Return a line for each variable, then a line for each event."""
    check_problem(problem)
    lines = [f"variable {name} {size}" for name, size in problem.variables()]
    return "\n".join(lines + [_event_line(problem, event) for event in problem.events()])


def parse_problem(text):
    return _parse_parts(text, _variable_of, _event_of, _build_problem)


def tapes_text(problem, tapes):
    """Return a line for each variable, in order, with the values of its tape."""
    # Building a sampler raises what is to be raised for wrong arguments.
    Sampler(problem, tapes)
    lines = []
    for name, _ in problem.variables():
        lines.append(" ".join(["tape", name] + [str(value) for value in tapes[name]]))
    return "\n".join(lines)


def parse_tapes(problem, text):
    """Return the dict of tapes that a text describes, in the order of the variables."""
    check_problem(problem)
    lines = _lines_of(text)
    variables = problem.variables()
    tapes = {}
    count = 0
    for index, line in enumerate(lines):
        if index == len(variables):
            raise InvalidLine(index)
        name, size = variables[index]
        tape = _tape_of(line, name, size)
        if tape is None or count + len(tape) > MOST_VALUES:
            raise InvalidLine(index)
        count = count + len(tape)
        tapes[name] = tape
    if len(lines) < len(variables):
        raise InvalidLine(len(lines))
    return tapes


def history_text(problem, history):
    """Return a line for each piece; the text of the empty history is empty."""
    check_problem(problem)
    check_history(problem, history)
    return "\n".join([piece_text(piece) for piece in history])


def parse_history(problem, text):
    """Return the list of pieces that a text describes."""
    check_problem(problem)
    pieces = []
    # The empty text has no line here, not an empty one.
    for index, line in enumerate([] if text == "" else _lines_of(text)):
        event, _, values = line.partition(":")
        piece = (event, _values_of(values))
        if index == MOST_PIECES or not problem.is_piece(piece):
            raise InvalidLine(index)
        pieces.append(piece)
    return pieces


def graph_text(graph):
    """Return a line for each name, then a line for each edge."""
    check_graph(graph)
    lines = [f"name {name}" for name in graph.names()]
    return "\n".join(lines + [f"edge {one} {other}" for one, other in graph.edges()])


def parse_graph(text):
    return _parse_parts(text, _name_of, _edge_of, _build_graph)


def _event_line(problem, event):
    bad_tuples = [",".join([str(value) for value in values]) for values in problem.bad_tuples(event)]
    return " ".join(["event", event] + problem.scope(event) + [":"] + bad_tuples)


def _lines_of(text):
    if not isinstance(text, str):
        raise InvalidText(text)
    return text.split("\n")


def _parse_parts(text, read_one, read_other, build):
    """Return what a text describes in which all lines of one kind come before those of the other.

    A line is read by one of two functions, which return None for what has not their form.
    """
    ones, others = [], []
    result = None
    for index, line in enumerate(_lines_of(text)):
        words = split_words(line)
        one = None if words is None or others != [] else read_one(words)
        other = None if words is None else read_other(words)
        if one is not None:
            ones.append(one)
        elif other is not None:
            others.append(other)
        else:
            raise InvalidLine(index)
        try:
            result = build(ones, others)
        except (ResampleError, MissingError):
            # The lines before this one are valid, so it is this one that does not fit to them.
            raise InvalidLine(index) from None
    return result


def _build_problem(variables, events):
    return Problem(variables, events)


def _build_graph(names, edges):
    return Graph(names, edges)


def _variable_of(words):
    if len(words) != 3 or words[0] != "variable":
        return None
    return words[1], parse_integer(words[2])


def _event_of(words):
    if words[0] != "event" or ":" not in words:
        return None
    colon = words.index(":")
    return words[1], words[2:colon], [_values_of(word) for word in words[colon + 1:]]


def _name_of(words):
    return words[1] if len(words) == 2 and words[0] == "name" else None


def _edge_of(words):
    return (words[1], words[2]) if len(words) == 3 and words[0] == "edge" else None


def _tape_of(line, name, size):
    """Return the values of the tape of a variable in a line, or None."""
    words = split_words(line)
    if words is None or words[:2] != ["tape", name]:
        return None
    values = [parse_integer(word, high=size - 1) for word in words[2:]]
    return None if None in values or not 1 <= len(values) <= MOST_VALUES_OF_TAPE else values


def _values_of(word):
    """Return the tuple of the values that a word has with commas between them, None for what is no integer."""
    return tuple([parse_integer(part) for part in word.split(",")])
