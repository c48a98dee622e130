"""Partners, which only one thread can tell from each other, and chains of them."""

from fewnames.errors import InvalidOperation, TooMany
from fewnames.base.rounds import all_rounds
from fewnames.base.runs import Run, check_run, row_at, run_count
from fewnames.base.values import check_member
from fewnames.views.views import view_behind

MAX_CHAIN = 20000

# Chains are looked for among at most so many runs.
MAX_RUNS = 6000


def partner_of(run, thread):
    """The partner of the run for the thread, or None if the thread is hidden."""
    at = last_seen(run, thread)
    return None if at is None else moved_at(run, thread, at)


def is_partner(run, thread, value):
    """Whether the value is the partner of the run for the thread."""
    at = last_seen(run, thread)
    return at is not None and isinstance(value, Run) and value == moved_at(run, thread, at)


def last_seen(run, thread):
    """The index of the last round in which another thread sees this one, or None."""
    check_run(run)
    check_member(thread, run.threads)
    for at in range(len(run) - 1, -1, -1):
        if run.rounds[at].is_seen(thread):
            return at
    return None


def same_views(run, other):
    """The threads that have the same view behind both runs, ascending."""
    check_alike(run, other)
    return tuple([one for one in run.threads if view_behind(run, one) == view_behind(other, one)])


def neighbors_of(run):
    """A dict from the threads that are not hidden to the partners for them."""
    check_run(run)
    return {one: partner_of(run, one) for one in run.threads if not run.is_hidden(one)}


def chain_between(run, other):
    """A chain from the first run to the other one."""
    check_alike(run, other)
    if run_count(len(run.threads), len(run)) > MAX_RUNS:
        raise TooMany(MAX_RUNS)
    rounds = list(all_rounds(run.threads))
    places = {one.blocks: at for at, one in enumerate(rounds)}
    moves = [moves_of(thread, rounds, places) for thread in run.threads]
    path = path_between(index_of(run, places), index_of(other, places), moves, len(run))
    return tuple([Run(run.threads, row_at(rounds, len(run), index)) for index in path])


def is_chain(value):
    """Whether the value is a chain."""
    if not isinstance(value, tuple) or not 1 <= len(value) <= MAX_CHAIN:
        return False
    for one in value:
        if not isinstance(one, Run):
            return False
    for one, other in zip(value, value[1:]):
        if not are_partners(one, other):
            return False
    return True


def signed_sum(run, thread):
    """The sum of the signs of all runs that leave the views of all other threads as they are."""
    check_run(run)
    # The run and its partner are all of them, and have unlike signs.
    return run.sign if run.is_hidden(thread) else 0


def check_alike(run, other):
    """Refuses values that are no two runs of the same threads with as many rounds."""
    check_run(run)
    check_run(other)
    if run.threads != other.threads or len(run) != len(other):
        raise InvalidOperation("both runs have the same threads and as many rounds")


def moved_at(run, thread, at):
    """The run in which the thread has moved in the round at this index."""
    rounds = run.rounds
    return Run(run.threads, rounds[:at] + (rounds[at].moved(thread),) + rounds[at + 1:])


def are_partners(run, other):
    """Whether the other run is the partner of the run for some thread."""
    if run.threads != other.threads or len(run) != len(other):
        return False
    unlike = [at for at, given in enumerate(run.rounds) if given != other.rounds[at]]
    if len(unlike) != 1:
        return False
    at = unlike[0]
    for thread in run.threads:
        if last_seen(run, thread) == at and run.rounds[at].moved(thread) == other.rounds[at]:
            return True
    return False


def moves_of(thread, rounds, places):
    """For each round the place of the one in which the thread has moved, its own place if it is not seen."""
    return [places[one.moved(thread).blocks] if one.is_seen(thread) else at for at, one in enumerate(rounds)]


def index_of(run, places):
    """The index of the run among all runs, by the places of the rounds."""
    index = 0
    for one in run.rounds:
        index = index * len(places) + places[one.blocks]
    return index


def partner_index(index, moves, length):
    """The index of the partner of the run at this index, by the moves of its thread, or this index if it has none."""
    rest = index
    weight = 1
    for _ in range(length):
        rest, place = divmod(rest, len(moves))
        if moves[place] != place:
            return index + (moves[place] - place) * weight
        weight = weight * len(moves)
    return index


def path_between(start, goal, moves, length):
    """The indexes of the runs of a shortest chain, by the moves of each thread."""
    # The search goes backwards, so that for each run that it reaches the next one towards the goal is known.
    onward = {goal: goal}
    reached = [goal]
    while start not in onward:
        reached = reached_next(reached, onward, moves, length)
    path = [start]
    while path[-1] != goal:
        path.append(onward[path[-1]])
    return path


def reached_next(reached, onward, moves, length):
    """The runs that are first reached from these, for which it is noted in `onward` from where."""
    found = []
    for index in reached:
        for each in moves:
            partner = partner_index(index, each, length)
            if partner not in onward:
                onward[partner] = index
                found.append(partner)
    return found
