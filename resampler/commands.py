"""Commands of a session: their forms, and the answers of those that leave its names alone."""

from resampler.counting import heap_counts, valid_probability
from resampler.graphs import dependency_graph, find_certificate
from resampler.heaps import heap_of, piece_text
from resampler.replay import first_difference
from resampler.sampler import choose_last, round_robin, run_sampler
from resampler.textio import problem_text
from resampler.trees import witness_tree
from resampler.validation import is_name, parse_integer, split_words

# For each command the kinds of its arguments, one tuple for each form. NAME is the name of a
# sampler, NEW that of a sampler that is to be added; a word in small letters stands for itself.
FORMS = {
    "problem": (("TEXT",),),
    "show": ((),),
    "counts": (("N",),),
    "valid": ((),),
    "bound": ((),),
    "sampler": (("NEW", "TEXT"),),
    "copy": (("NAME", "NEW"),),
    "drop": (("NAME",),),
    "samplers": ((),),
    "state": (("NAME",),),
    "resample": (("NAME", "EVENT"),),
    "undo": (("NAME",),),
    "run": (("NAME",), ("NAME", "last"), ("NAME", "turns", "N")),
    "history": (("NAME",),),
    "heap": (("NAME",),),
    "tree": (("NAME", "N"),),
    "compare": (("NAME", "NAME"),),
}


def read_command(line):
    """Return the word of a command, the kinds of its arguments and the arguments, or None."""
    words = split_words(line)
    if words is None:
        return None
    for kinds in FORMS.get(words[0], ()):
        values = _read_arguments(kinds, words[1:])
        if values is not None:
            return words[0], kinds, values
    return None


def sampler_line(name, sampler):
    """Return the name of a sampler, its number of steps and what it can still do."""
    status = "open"
    if sampler.is_valid():
        status = "valid"
    elif sampler.is_stuck():
        status = "stuck"
    return f"{name} {len(sampler)} {status}"


def answer_of(word, arguments):
    """Return the answer of a command about a problem or about samplers, which are its arguments."""
    action = ANSWERS[word]
    return action(*arguments)


def _read_arguments(kinds, words):
    """Return what the words after a command stand for, or None if they are not of these kinds."""
    if "TEXT" in kinds and len(words) >= len(kinds):
        # A text is all that remains for the last argument.
        last = len(kinds) - 1
        words = words[:last] + [_text_of(words[last:])]
    if len(words) != len(kinds):
        return None
    values = [_read_word(kind, word) for kind, word in zip(kinds, words)]
    return None if None in values else values


def _read_word(kind, word):
    if kind == "TEXT":
        return word
    if kind == "N":
        return parse_integer(word)
    if kind in ("NAME", "NEW", "EVENT"):
        return word if is_name(word) else None
    return word if word == kind else None


def _text_of(words):
    """Return the text that words represent, in which a slash stands for a line feed."""
    lines = [[]]
    for word in words:
        if word == "/":
            lines.append([])
        else:
            lines[-1].append(word)
    return "\n".join([" ".join(line) for line in lines])


def _show(problem):
    return problem_text(problem).split("\n")


def _counts(problem, up_to):
    return [" ".join([str(count) for count in heap_counts(problem, up_to=up_to)])]


def _valid(problem):
    return [str(valid_probability(problem))]


def _bound(problem):
    probabilities = {event: problem.probability(event) for event in problem.events()}
    verdict, _, rows = find_certificate(dependency_graph(problem), probabilities)
    # The last row is that of the prefix at which the certificate ends.
    return [" ".join([verdict, str(rows[-1][1])])]


def _state(sampler):
    values = " ".join([str(value) for value in sampler.assignment()])
    return [values, _listed(sampler.occurring()), _listed(sampler.ready())]


def _listed(events):
    return "-" if events == [] else " ".join(events)


def _resample(sampler, event):
    return [piece_text((event, sampler.resample(event)))]


def _undo(sampler):
    return [piece_text(sampler.undo())]


def _run(sampler, way=None, start=0):
    choose = None
    if way == "last":
        choose = choose_last
    elif way == "turns":
        choose = round_robin(start)
    return [str(run_sampler(sampler, choose))]


def _history(sampler):
    return [piece_text(piece) for piece in sampler.history()]


def _heap(sampler):
    return [] if len(sampler) == 0 else [str(heap_of(sampler))]


def _tree(sampler, step):
    answer = []
    for depth, event, values, parent in witness_tree(sampler.problem(), sampler.history(), step):
        above = "-" if parent is None else str(parent)
        answer.append(" ".join([str(depth), piece_text((event, values)), above]))
    return answer


def _compare(one, other):
    found = first_difference(one, other)
    return ["equal"] if found is None else [f"{found[0]} {found[1]}"]


ANSWERS = {
    "show": _show,
    "counts": _counts,
    "valid": _valid,
    "bound": _bound,
    "state": _state,
    "resample": _resample,
    "undo": _undo,
    "run": _run,
    "history": _history,
    "heap": _heap,
    "tree": _tree,
    "compare": _compare,
}
