"""Programs, which give a new name to each pattern."""

from fewnames.errors import InvalidOperation, InvalidProgram, InvalidRun, TooMany
from fewnames.base.runs import MAX_ROUNDS, Run
from fewnames.base.values import check_between, is_integer, is_member
from fewnames.views.views import (
    all_patterns, earlier_view, is_pattern, last_seen_in, mirrored_view, pattern_behind, pattern_count, pattern_of,
    pattern_size, ranked)

MAX_NAME = 99


class Program:
    """A program: in a run a thread takes the new name of the pattern of its view."""

    def __init__(self, size, length, names):
        if not is_names(size, length, names):
            raise InvalidProgram("names are a dict from just all patterns to new names")
        self._size = size
        self._length = length
        self._names = {pattern: names[pattern] for pattern in sorted(names)}
        self._told = tuple(sorted(set(list(names.values()))))
        self._greatest = self._told[-1]

    @property
    def size(self):
        """The greatest number of threads."""
        return self._size

    @property
    def length(self):
        """The number of rounds."""
        return self._length

    @property
    def names(self):
        """A dict from all patterns, ascending, to their new names."""
        return {pattern: self._names[pattern] for pattern in self._names}

    @property
    def told(self):
        """The new names that some pattern has, ascending."""
        return self._told

    @property
    def greatest(self):
        """The greatest new name that some pattern has."""
        return self._greatest

    def name_of(self, view):
        """The new name of the pattern of a view."""
        pattern = pattern_of(view)
        check_told(pattern, self._names)
        return self._names[pattern]

    def names_in(self, run):
        """A dict from the threads of the run to their new names."""
        check_run_for(self._size, self._length, run)
        return {one: self._names[pattern_behind(run, one)] for one in run.threads}

    def with_name(self, view, name):
        """The program with another new name for the pattern of the view."""
        pattern = pattern_of(view)
        check_new_name(name)
        check_told(pattern, self._names)
        names = self.names
        names[pattern] = name
        return Program(self._size, self._length, names)

    def mapped(self, table):
        """The program with other new names, by a dict from all names that are told."""
        if not is_mapping(self._told, table):
            raise InvalidOperation("a table is a dict from just all names that are told to new names")
        return Program(self._size, self._length, {one: table[self._names[one]] for one in self._names})

    def for_fewer(self, size):
        """The program for fewer threads."""
        check_between(size, 1, self._size)
        few = [one for one in self._names if len(last_seen_in(one)) <= size]
        return Program(size, self._length, {one: self._names[one] for one in few})

    def mirrored(self):
        """The program in which each pattern has the new name of the one with the threads the other way round."""
        names = {one: self._names[mirrored_view(one)] for one in self._names}
        return Program(self._size, self._length, names)

    def lengthened(self):
        """The program with one round more, whose views are not looked at."""
        if self._length == MAX_ROUNDS:
            raise TooMany(MAX_ROUNDS)
        patterns = all_patterns(self._size, self._length + 1)
        return Program(self._size, self._length + 1, {one: self._names[earlier_pattern(one)] for one in patterns})

    def __contains__(self, value):
        return is_pattern(value) and value in self._names

    def __len__(self):
        return len(self._names)

    def __eq__(self, other):
        return (isinstance(other, Program) and self._size == other._size and self._length == other._length
                and self._names == other._names)

    def __str__(self):
        return f"program for {self._size} threads, {self._length} rounds: {names_text(self._names, self._told)}"


def program_by(size, length, rule):
    """The program in which each pattern has the new name that the rule returns for it."""
    names = {}
    for pattern in all_patterns(size, length):
        name = rule(pattern)
        if not is_new_name(name):
            raise InvalidProgram("a rule returns new names")
        names[pattern] = name
    return Program(size, length, names)


def is_names(size, length, value):
    """Whether the value is a dict from just all patterns for so many threads and rounds to new names."""
    many = pattern_count(size, length)
    if not isinstance(value, dict) or len(value) != many:
        return False
    for key in value:
        if not 1 <= pattern_size(key) <= size or len(key[1]) != length or not is_new_name(value[key]):
            return False
    return True


def is_new_name(value):
    """Whether the value is a new name."""
    return is_integer(value) and 1 <= value <= MAX_NAME


def check_new_name(name):
    """Refuses a value that is no new name."""
    check_between(name, 1, MAX_NAME)


def check_told(pattern, names):
    """Refuses a pattern that has none of these new names."""
    if pattern not in names:
        raise InvalidOperation("the view has other rounds, or more threads, than the program")


def is_mapping(told, value):
    """Whether the value is a dict from just the names that are told to new names."""
    if not isinstance(value, dict) or len(value) != len(told):
        return False
    return all([is_member(key, told) and is_new_name(value[key]) for key in value])


def is_run_for(size, length, value):
    """Whether the value is a run with so many rounds of at most so many threads."""
    return isinstance(value, Run) and len(value) == length and len(value.threads) <= size


def check_run_for(size, length, run):
    """Refuses a value that is no run with so many rounds of at most so many threads."""
    if not is_run_for(size, length, run):
        raise InvalidRun("the run has as many rounds as the program, and no more threads")


def check_program(program):
    """Refuses a value that is no program."""
    if not isinstance(program, Program):
        raise InvalidProgram("a program is made by Program")


def earlier_pattern(pattern):
    """The pattern of what the thread knew ahead of the last round."""
    view = earlier_view(pattern)
    return ranked(view, last_seen_in(view))


def names_text(names, told):
    """The text of how many patterns there are, and of the greatest new name."""
    return f"{len(names)} patterns, names to {told[-1]}"
