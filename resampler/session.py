"""Sessions: they execute commands about one problem and samplers of it."""

from resampler.checks import check_known, is_list
from resampler.commands import answer_of, read_command, sampler_line
from resampler.errors import DuplicateName, InvalidCommand, InvalidInteger, InvalidProblem, MissingError
from resampler.errors import ResampleError, StateError, TooLarge
from resampler.sampler import Sampler
from resampler.textio import parse_problem, parse_tapes
from resampler.validation import is_integer

MOST_SAMPLERS = 6
MOST_LINES = 40


class Session:
    """At most one problem, samplers of it with names, and a log of the commands."""

    def __init__(self, *, max_samplers=6):
        if not is_integer(max_samplers, 1, MOST_SAMPLERS):
            raise InvalidInteger(max_samplers)
        self._max_samplers = max_samplers
        self._problem = None
        self._samplers = {}
        self._log = []

    def problem(self):
        """Return the problem, or None."""
        return self._problem

    def names(self):
        """Return the names of the samplers in the order in which they were added."""
        return list(self._samplers)

    def sampler(self, name):
        """Return a copy of a sampler."""
        check_known(name, self.names())
        return self._samplers[name].copied()

    def log(self):
        return list(self._log)

    def execute(self, line):
        """Execute one command and return its answer, a list of strings."""
        command = read_command(line)
        if command is None:
            raise InvalidCommand(line)
        word, kinds, values = command
        if self._problem is None and word not in ("problem", "samplers"):
            raise InvalidProblem(None)
        self._check_names(kinds, values)
        answer = self._perform(word, kinds, values)
        self._log.append(word)
        return answer

    def execute_all(self, lines):
        """Execute all lines and return their answers; if one raises an exception, none has an effect."""
        if not is_list(lines, 0, MOST_LINES):
            raise InvalidCommand(lines)
        problem = self._problem
        samplers = {name: sampler.copied() for name, sampler in self._samplers.items()}
        self._log.append("begin")
        answers = []
        try:
            for line in lines:
                answers.append(self.execute(line))
        except (ResampleError, MissingError, StateError):
            self._problem = problem
            self._samplers = samplers
            self._log.append("rollback")
            raise
        self._log.append("commit")
        return answers

    def _check_names(self, kinds, values):
        """Check the names of samplers from left to right, and then the number of samplers."""
        for kind, value in zip(kinds, values):
            if kind == "NEW" and value in self._samplers:
                raise DuplicateName(value)
            if kind == "NAME":
                check_known(value, self.names())
        count = len(self._samplers) + 1
        if "NEW" in kinds and count > self._max_samplers:
            raise TooLarge(count)

    def _perform(self, word, kinds, values):
        if word == "samplers":
            return [sampler_line(name, sampler) for name, sampler in self._samplers.items()]
        if word in ("problem", "sampler", "copy", "drop"):
            self._change(word, values)
            return []
        arguments = [self._samplers[value] if kind == "NAME" else value for kind, value in zip(kinds, values)]
        # What is not about samplers is about the problem.
        return answer_of(word, arguments if "NAME" in kinds else [self._problem] + arguments)

    def _change(self, word, values):
        """Set the problem, or add or remove a sampler."""
        if word == "problem":
            self._problem = parse_problem(values[0])
            self._samplers = {}
        elif word == "sampler":
            self._samplers[values[0]] = Sampler(self._problem, parse_tapes(self._problem, values[1]))
        elif word == "copy":
            self._samplers[values[1]] = self._samplers[values[0]].copied()
        else:
            del self._samplers[values[0]]
