"""Signed counts: how many runs have an outcome, each run counted with its sign."""

from fewnames.errors import InvalidOperation
from fewnames.base.rounds import MAX_THREADS
from fewnames.base.values import check_between, is_integer, is_old_name
from fewnames.programs.outcomes import outcomes_of, signs_of
from fewnames.programs.programs import check_program, is_new_name


def signed_counts(program, many):
    """A dict from the outcomes of the runs of so many threads to the signed numbers of these runs."""
    check_program(program)
    check_between(many, 0, program.size)
    return summed(outcomes_of(program, many), signs_of(many, program.length))


def family_of(program):
    """The signed counts for 0, 1, .. up to its size threads."""
    check_program(program)
    return tuple([signed_counts(program, many) for many in range(program.size + 1)])


def opened_at(counts, place):
    """The signed counts with the name at a place left open."""
    check_between(place, 0, length_of(counts) - 1)
    return opened(counts, place)


def is_family(value):
    """Whether the value is a tuple of signed counts, each of which is the one ahead of it with a name more."""
    if not isinstance(value, tuple) or not 1 <= len(value) <= MAX_THREADS + 1:
        return False
    for many, counts in enumerate(value):
        if not is_counts(counts, many) or not all([counts[outcome] != 0 for outcome in counts]):
            return False
        if not all([opened(counts, place) == value[many - 1] for place in range(many)]):
            return False
    return value[0] == {(): 1}


def count_of(counts, known):
    """The sum of the numbers of all outcomes that have the known names at their places."""
    length = length_of(counts)
    if not is_known(known, length):
        raise InvalidOperation("what is known is a dict from places to new names")
    return sum([counts[outcome] for outcome in counts if all([outcome[at] == known[at] for at in known])])


def rearranged(counts, places):
    """The signed counts with outcomes in another order of places, which tells for each new place the old one."""
    length = length_of(counts)
    if not is_order_of_places(places, length):
        raise InvalidOperation("places are a tuple of all places, each once")
    outcomes = list(counts)
    return summed([tuple([one[at] for at in places]) for one in outcomes], [counts[one] for one in outcomes])


def summed(outcomes, numbers):
    """A dict from the outcomes, ascending, to the sums of their numbers, without those that are 0."""
    sums = {}
    for outcome, number in zip(outcomes, numbers):
        sums[outcome] = sums.get(outcome, 0) + number
    return {outcome: sums[outcome] for outcome in sorted(sums) if sums[outcome] != 0}


def opened(counts, place):
    """The signed counts with the name at a place left open, where both are known to be right."""
    outcomes = list(counts)
    return summed([one[:place] + one[place + 1:] for one in outcomes], [counts[one] for one in outcomes])


def is_outcome(value):
    """Whether the value is a tuple of at most 5 new names."""
    return isinstance(value, tuple) and len(value) <= MAX_THREADS and all([is_new_name(one) for one in value])


def is_counts(value, length):
    """Whether the value is a dict from outcomes of this length to integers."""
    if not isinstance(value, dict):
        return False
    return all([is_outcome(key) and len(key) == length and is_integer(value[key]) for key in value])


def length_of(counts):
    """The length of the outcomes of a dict of signed counts; refuses a value that is none."""
    first = list(counts)[0] if isinstance(counts, dict) and counts else None
    if not is_outcome(first) or not first or not is_counts(counts, len(first)):
        raise InvalidOperation("signed counts are a dict from outcomes of one length, at least 1, to integers")
    return len(first)


def is_place(value, length):
    """Whether the value is a place of outcomes of this length."""
    return is_old_name(value) and value < length


def is_known(value, length):
    """Whether the value is a dict from places of outcomes of this length to new names."""
    if not isinstance(value, dict):
        return False
    return all([is_place(key, length) and is_new_name(value[key]) for key in value])


def is_order_of_places(value, length):
    """Whether the value is a tuple of all places of outcomes of this length, each once."""
    if not isinstance(value, tuple) or not all([is_place(one, length) for one in value]):
        return False
    return sorted(value) == list(range(length))
