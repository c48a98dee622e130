"""Marked threads, the triangles of their signed numbers, and the doubles that these force."""

from fewnames.errors import InvalidGroup, InvalidOperation
from fewnames.base.rounds import MAX_THREADS
from fewnames.base.values import is_integer
from fewnames.counts.binomials import barring_group, factor_of, is_barred, is_factor, is_row_of_marks, marks_of
from fewnames.counts.counts import signed_counts, summed
from fewnames.programs.checks import found_double
from fewnames.programs.outcomes import outcomes_of, runs_at
from fewnames.programs.programs import check_program, is_new_name


def marked_threads(program, group, run):
    """The marked threads of the run, ascending."""
    check_marking(program, group)
    names = program.names_in(run)
    return tuple([one for one in run.threads if names[one] in group])


def mark_counts(program, group, many):
    """A dict from tuples of threads to the signed numbers of the runs in which just these are marked."""
    check_marking(program, group)
    counts = signed_counts(program, many)
    marked = [tuple([one for one, name in enumerate(outcome) if name in group]) for outcome in counts]
    return summed(marked, list(counts.values()))


def all_marked(program, group):
    """For 0, 1, .. up to its size threads the signed number of the runs in which all are marked."""
    check_marking(program, group)
    return tuple([mark_counts(program, group, many).get(tuple(range(many)), 0) for many in range(program.size + 1)])


def triangle_of(program, group):
    """The triangle of the program and the group."""
    return triangle_from(all_marked(program, group))


def triangle_from(sums):
    """The triangle with these signed numbers of the runs in which all threads are marked."""
    if not is_row_of_integers(sums) or not 1 <= len(sums) <= MAX_THREADS + 1 or sums[0] != 1:
        raise InvalidOperation("sums are a tuple of 1 to 6 integers, of which the first one is 1")
    rows = [sums[:1]]
    for total in sums[1:]:
        rows.append(row_below(rows[-1], total))
    return tuple(rows)


def is_triangle(value):
    """Whether the value is a triangle of at most 6 rows."""
    if not isinstance(value, tuple) or not 1 <= len(value) <= MAX_THREADS + 1:
        return False
    for at, row in enumerate(value):
        if not is_row_of_integers(row) or len(row) != at + 1:
            return False
        if at > 0 and row != row_below(value[at - 1], row[-1]):
            return False
    return value[0] == (1,)


def reached_marks(program, group):
    """The numbers of marked threads that come up in the runs of as many threads as the size, ascending."""
    check_marking(program, group)
    return tuple(sorted(set(marks_in_runs(program, group, program.size))))


def forced_run(program, group, numbers):
    """A run of as many threads as the size in which the number of marked threads is none of these numbers."""
    check_marking(program, group)
    if not is_row_of_marks(program.size, numbers):
        raise InvalidOperation("numbers are an ascending tuple of integers from 0 to the size")
    if factor_of(program.size, numbers) == 1:
        raise InvalidOperation("the numbers have no common factor that forces a run")
    indexes = [index for index, mark in enumerate(marks_in_runs(program, group, program.size)) if mark not in numbers]
    return runs_at(tuple(range(program.size)), program.length, indexes[:1])[0]


def forced_double(program):
    """A double of as many threads as the size, where the greatest new name is a barred number of names."""
    check_program(program)
    if not is_barred(program.size, program.greatest):
        raise InvalidOperation("so many names are not barred")
    return found_double(program)


def forced_paper(program):
    """A paper that there is a double by counting alone."""
    check_program(program)
    if program.greatest < program.size or not is_barred(program.size, program.greatest):
        raise InvalidOperation("so many names are not barred by counting")
    many = barring_group(program.size, program.greatest)
    group = tuple(range(1, many + 1))
    factor = factor_of(program.size, marks_of(program.size, program.greatest, many))
    return (group, factor, triangle_of(program, group)[-1])


def is_forced_paper(program, value):
    """Whether the value is a paper that there is a double by counting alone."""
    check_program(program)
    if program.greatest < program.size or not isinstance(value, tuple) or len(value) != 3:
        return False
    group, factor, row = value
    if not is_group(group) or not 1 <= len(group) < program.greatest or group[-1] > program.greatest:
        return False
    if not is_factor(factor, program.size, marks_of(program.size, program.greatest, len(group))):
        return False
    return is_row_of_integers(row) and row == triangle_of(program, group)[-1]


def is_group(value):
    """Whether the value is a group of new names."""
    if not isinstance(value, tuple) or not all([is_new_name(one) for one in value]):
        return False
    return list(value) == sorted(set(value))


def check_marking(program, group):
    """Refuses values that are no program and no group."""
    check_program(program)
    check_group(group)


def check_group(group):
    """Refuses a value that is no group."""
    if not is_group(group):
        raise InvalidGroup("a group is an ascending tuple of new names")


def is_row_of_integers(value):
    """Whether the value is a tuple of integers."""
    return isinstance(value, tuple) and all([is_integer(one) for one in value])


def row_below(above, last):
    """The row of a triangle below this one that ends so."""
    row = [last]
    # Each number is the sum of the two below it, so from the last number on each one tells the one beside it.
    for number in above[::-1]:
        row.append(number - row[-1])
    return tuple(row[::-1])


def marks_in_runs(program, group, many):
    """The numbers of marked threads in all runs of so many threads, in the order of all_runs."""
    marked = {name: True for name in group}
    return [len([name for name in outcome if name in marked]) for outcome in outcomes_of(program, many)]
