"""Choice programs, in which each thread chooses one of the threads that it knows of."""

from fewnames.errors import InvalidProgram
from fewnames.base.values import check_between, is_old_name
from fewnames.counts.counts import summed
from fewnames.programs.outcomes import has_double, runs_at, signs_of, views_in_runs
from fewnames.programs.programs import check_program, check_run_for, program_by
from fewnames.views.views import last_seen_in, ranked, view_behind


def is_choice(program):
    """Whether the new name of each pattern is at most the number of threads in its carrier."""
    check_program(program)
    names = program.names
    return all([names[pattern] <= len(last_seen_in(pattern)) for pattern in names])


def choices_in(program, run):
    """A dict from the threads of the run to whom they choose."""
    check_choice(program)
    check_run_for(program.size, program.length, run)
    names = program.names
    return {one: chosen_by(view_behind(run, one), names) for one in run.threads}


def choice_counts(program, many):
    """A dict from the choices of so many threads, in their order, to the signed numbers of the runs with these."""
    return summed(choices_in_runs(program, many), signs_of(many, program.length))


def rainbow_sum(program, many):
    """The sum, over the rainbows of so many threads, of the sign of the run times that of its row of choices."""
    counts = choice_counts(program, many)
    return sum([counts[row] * row_sign(row) for row in counts if not has_double(row)])


def all_rainbows(program, many):
    """All runs of so many threads in which these choose unlike threads, in the order of all_runs."""
    rows = choices_in_runs(program, many)
    indexes = [index for index, row in enumerate(rows) if not has_double(row)]
    return tuple(runs_at(tuple(range(many)), program.length, indexes))


def found_rainbow(program):
    """A run of as many threads as the size in which these choose unlike threads."""
    check_choice(program)
    rows = choices_in_runs(program, program.size)
    # There is always one: the signs of all rainbows sum to 1.
    first = [index for index, row in enumerate(rows) if not has_double(row)][:1]
    return runs_at(tuple(range(program.size)), program.length, first)[0]


def chosen_numbers(program, many):
    """A dict from the numbers of different threads that are chosen in a run to how many runs have so many."""
    numbers = [len(set(row)) for row in choices_in_runs(program, many)]
    return {number: numbers.count(number) for number in sorted(set(numbers))}


def is_election(program):
    """Whether in each run whoever is chosen chooses itself."""
    check_choice(program)
    # What comes up among few threads comes up among more as well, in runs in which the others come later.
    rows = choices_in_runs(program, program.size)
    return all([row[chosen] == chosen for row in rows for chosen in row])


def own_choice(size, length):
    """The program in which all choose themselves."""
    return rule_choice(size, length, lambda pattern: pattern[0])


def least_choice(size, length):
    """The program in which all choose the least thread that they know of."""
    return rule_choice(size, length, lambda pattern: 0)


def greatest_choice(size, length):
    """The program in which all choose the greatest thread that they know of."""
    return rule_choice(size, length, lambda pattern: len(last_seen_in(pattern)) - 1)


def rule_choice(size, length, rule):
    """The program in which a thread chooses the thread of the rank that the rule returns for its pattern."""

    def name_by_rule(pattern):
        """The new name with which the thread chooses so."""
        rank = rule(pattern)
        if not is_old_name(rank) or rank >= len(last_seen_in(pattern)):
            raise InvalidProgram("a rule returns the rank of a thread in the carrier")
        return rank + 1

    return program_by(size, length, name_by_rule)


def check_choice(program):
    """Refuses a value that is no choice program."""
    if not is_choice(program):
        raise InvalidProgram("the new names are at most the numbers of threads in the carriers")


def chosen_by(view, names):
    """Whom the thread of the view chooses, by the new names of the patterns."""
    carrier = last_seen_in(view)
    return carrier[names[ranked(view, carrier)] - 1]


def choices_in_runs(program, many):
    """For all runs of so many threads, in the order of all_runs, whom these choose, in their order."""
    check_choice(program)
    check_between(many, 1, program.size)
    names = program.names
    views, rows = views_in_runs(many, program.length)
    chosen = [chosen_by(view, names) for view in views]
    return [tuple([chosen[at] for at in row]) for row in rows]


def row_sign(row):
    """1 if there is an even number of pairs in which the greater one stands first, else -1."""
    turned = [one for at, one in enumerate(row) for other in row[at + 1:] if one > other]
    return 1 if len(turned) % 2 == 0 else -1
