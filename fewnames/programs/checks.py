"""Whether programs are good, and the doubles of those that are not."""

from fewnames.errors import InvalidThreads
from fewnames.base.rounds import is_threads
from fewnames.base.values import is_member
from fewnames.programs.outcomes import has_double, outcomes_of, patterns_in_runs, runs_at
from fewnames.programs.programs import check_program, is_run_for
from fewnames.views.views import all_patterns, last_seen_in


def is_good(program):
    """Whether in no run two threads take the same new name."""
    check_program(program)
    return first_double(program) is None


def found_double(program):
    """A double, or None if the program is good."""
    check_program(program)
    index = first_double(program)
    if index is None:
        return None
    run = runs_at(tuple(range(program.size)), program.length, [index])[0]
    return (run,) + equal_pair(program.names_in(run))


def is_double(program, value):
    """Whether the value is a run with two of its threads that take the same new name."""
    check_program(program)
    if not isinstance(value, tuple) or len(value) != 3:
        return False
    run, one, other = value
    if not is_run_for(program.size, program.length, run):
        return False
    if not is_member(one, run.threads) or not is_member(other, run.threads) or one >= other:
        return False
    names = program.names_in(run)
    return names[one] == names[other]


def all_doubles(program, threads):
    """All runs of these threads in which two of them take the same new name, in the order of all_runs."""
    check_program(program)
    if not is_threads(threads) or len(threads) > program.size:
        raise InvalidThreads("the threads are no more than the size of the program")
    outcomes = outcomes_of(program, len(threads))
    indexes = [index for index, outcome in enumerate(outcomes) if has_double(outcome)]
    return tuple(runs_at(threads, program.length, indexes))


def all_meetings(size, length):
    """All pairs of patterns that two threads of some run have, ascending."""
    order = all_patterns(size, length)
    ranks = {pattern: rank for rank, pattern in enumerate(order)}
    patterns, rows = patterns_in_runs(size, length)
    places = [ranks[pattern] for pattern in patterns]
    # A meeting of few threads is one of more as well, in which the others come later.
    met = {}
    for row in rows:
        for one, other in pairs_of([places[at] for at in row]):
            met[(min(one, other), max(one, other))] = True
    return tuple([(order[one], order[other]) for one, other in sorted(met)])


def names_reached(program):
    """For 1, 2, .. up to its size threads the greatest new name of a pattern with no more threads in its carrier."""
    check_program(program)
    reached = [0] * program.size
    for pattern, name in program.names.items():
        at = len(last_seen_in(pattern)) - 1
        reached[at] = max(reached[at], name)
    return tuple([max(reached[:many]) for many in range(1, program.size + 1)])


def first_double(program):
    """The index of the first run of as many threads as the size with a double, or None."""
    # A double of few threads is one of more as well, in which the others come later.
    for index, outcome in enumerate(outcomes_of(program, program.size)):
        if has_double(outcome):
            return index
    return None


def equal_pair(names):
    """The first two threads that take the same new name."""
    return [(one, other) for one, other in pairs_of(list(names)) if names[one] == names[other]][0]


def pairs_of(row):
    """All pairs of what stands in the row, each in its order."""
    return [(one, other) for at, one in enumerate(row) for other in row[at + 1:]]
