"""Programs that are made: by ranks, by the shrinking rule, and of other programs."""

from fewnames.errors import InvalidOperation, InvalidProgram, TooMany
from fewnames.base.runs import MAX_ROUNDS, check_run
from fewnames.base.values import check_between
from fewnames.programs.programs import Program, check_program, is_new_name, program_by
from fewnames.views.views import all_patterns, earlier_view, last_seen_in, ranked, run_with

# The shrinking rule is made into programs for at most so many threads.
MAX_SHRINKING = 3

# The place of all threads at first: the first name and the direction of their group.
FIRST_PLACE = (1, 1)


def rank_program(size):
    """The program of one round in which a thread counts whom it sees, and who of these is less."""
    return program_by(size, 1, rank_name)


def shrunk_names(run):
    """A dict from all threads of the run to their new names by the shrinking rule."""
    check_run(run)
    if len(run) < len(run.threads) - 1:
        raise InvalidOperation("the shrinking rule needs as many rounds as threads less 1")
    names = {}
    places = {one: FIRST_PLACE for one in run.threads}
    for given in run.rounds:
        taken, places = shrunk_round(given, places)
        names.update(taken)
    # So many rounds leave each thread without a new name alone in its group.
    names.update({one: places[one][0] for one in places})
    return {one: names[one] for one in run.threads}


def shrinking_program(size):
    """The program for at most so many threads by the shrinking rule."""
    check_between(size, 1, MAX_SHRINKING)
    return program_by(size, size - 1, shrunk_name)


def packed_program(program):
    """The program with the names 1, 2, .. in place of those that are told."""
    check_program(program)
    return program.mapped({name: at + 1 for at, name in enumerate(program.told)})


def combined_program(one, other, names):
    """The program in which a thread takes what the dict has for the new names that both programs give."""
    check_program(one)
    check_program(other)
    if one.size != other.size:
        raise InvalidProgram("both programs are for equally many threads")
    if not is_dict_of_pairs(names):
        raise InvalidOperation("names are a dict from pairs of new names to new names")
    length = one.length + other.length
    if length > MAX_ROUNDS:
        raise TooMany(MAX_ROUNDS)
    first = one.names
    last = other.names
    combined = {}
    for pattern in all_patterns(one.size, length):
        pair = (first[first_pattern(pattern, one.length)], last[last_pattern(pattern, other.length)])
        if pair not in names:
            raise InvalidOperation("a pair of new names that comes is not told")
        combined[pattern] = names[pair]
    return Program(one.size, length, combined)


def shrunk_round(given, places):
    """The new names that are taken in a round, and the places of the threads that have none behind it.

    A place is the first name and the direction of the group. It tells the group among the threads of the round: were
    there two groups with one place, a thread of each, alone in sight of its group, would take the same new name.
    """
    taken = {}
    moved = {}
    for thread in given.threads:
        if thread in places:
            first, direction = places[thread]
            group = [one for one in given.sees(thread) if one in places and places[one] == places[thread]]
            if thread == group[-1]:
                taken[thread] = first + direction * (2 * len(group) - 2)
            else:
                moved[thread] = (first + direction * (2 * len(group) - 3), -direction)
    return taken, {one: moved.get(one, places[one]) for one in places if one not in taken}


def rank_name(pattern):
    """The new name of a pattern behind one round: one for each number of threads seen, and each rank among them."""
    many = len(last_seen_in(pattern))
    return many * (many - 1) // 2 + pattern[0] + 1


def shrunk_name(pattern):
    """The new name of a pattern by the shrinking rule."""
    return shrunk_names(run_with(pattern))[pattern[0]]


def first_pattern(pattern, length):
    """The pattern of what the thread knew behind the first rounds, so many."""
    view = pattern
    while len(view[1]) > length:
        view = earlier_view(view)
    return ranked(view, last_seen_in(view))


def last_pattern(pattern, length):
    """The pattern of what the thread sees in the last rounds, so many, as if they were all."""
    view = (pattern[0], pattern[1][:length])
    return ranked(view, last_seen_in(view))


def is_dict_of_pairs(value):
    """Whether the value is a dict from pairs of new names to new names."""
    if not isinstance(value, dict):
        return False
    return all([is_pair_of_names(key) and is_new_name(value[key]) for key in value])


def is_pair_of_names(value):
    """Whether the value is a pair of new names."""
    return isinstance(value, tuple) and len(value) == 2 and is_new_name(value[0]) and is_new_name(value[1])
