"""Runs: rows of rounds on the same threads."""

from fewnames.errors import InvalidOperation, InvalidRound, InvalidRun, InvalidThreads, TooMany
from fewnames.base.rounds import (
    Round, all_rounds, check_renaming, check_threads, is_threads, renamed_blocks, round_count)
from fewnames.base.values import check_between, check_member, is_old_name

MAX_ROUNDS = 6

# As many rows of rounds can be kept at once.
MANY_ROWS = 1000


class Run:
    """A run: what a thread has seen in a round it takes along to the later ones."""

    def __init__(self, threads, rounds):
        check_threads(threads)
        if not is_row_of_rounds(threads, rounds):
            raise InvalidRun("a run has a tuple of at most 6 rounds on its threads")
        self._threads = threads
        self._rounds = rounds

    @property
    def threads(self):
        """All threads, ascending."""
        return self._threads

    @property
    def rounds(self):
        """The rounds, the first one first."""
        return self._rounds

    @property
    def sign(self):
        """The product of the signs of the rounds."""
        odd = [one for one in self._rounds if one.sign == -1]
        return 1 if len(odd) % 2 == 0 else -1

    def with_round(self, extra):
        """The run with one round more, the last one."""
        if not is_round_on(self._threads, extra):
            raise InvalidRound("the extra round is one on the threads of the run")
        if len(self._rounds) == MAX_ROUNDS:
            raise TooMany(MAX_ROUNDS)
        return Run(self._threads, self._rounds + (extra,))

    def shortened(self, length):
        """The run of the first rounds, so many."""
        check_between(length, 0, len(self._rounds))
        return Run(self._threads, self._rounds[:length])

    def without(self, thread):
        """The run of the other threads."""
        check_member(thread, self._threads)
        if len(self._threads) == 1:
            raise InvalidOperation("a run has at least one thread")
        others = tuple([one for one in self._threads if one != thread])
        return Run(others, tuple([one.without(thread) for one in self._rounds]))

    def known(self, thread):
        """The threads of which this one knows behind the run, itself included, ascending."""
        check_member(thread, self._threads)
        known = (thread,)
        # Backwards: a thread brings along what it had seen ahead of the round in which it is seen.
        for one in self._rounds[::-1]:
            known = all_seen(one, known)
        return known

    def is_hidden(self, thread):
        """Whether no other thread sees this one in any round."""
        check_member(thread, self._threads)
        for one in self._rounds:
            if one.is_seen(thread):
                return False
        return True

    def renamed(self, names):
        """The run with other old names, by a dict from all its threads."""
        check_renaming(self._threads, names)
        threads = tuple(sorted([names[one] for one in self._threads]))
        return Run(threads, tuple([Round(renamed_blocks(one.blocks, names)) for one in self._rounds]))

    def __getitem__(self, index):
        check_between(index, 0, len(self._rounds) - 1)
        return self._rounds[index]

    def __iter__(self):
        return iter(self._rounds)

    def __len__(self):
        return len(self._rounds)

    def __eq__(self, other):
        return isinstance(other, Run) and self._threads == other._threads and self._rounds == other._rounds

    def __str__(self):
        return f"run of {len(self._threads)} threads: {rounds_text(self._rounds)}"


def is_round_on(threads, value):
    """Whether the value is a round on just these threads."""
    return isinstance(value, Round) and value.threads == threads


def all_seen(given, threads):
    """Whom these threads together see in a round, ascending."""
    # Of two threads one sees all that the other one sees, so it is enough to ask who sees the most.
    return max([given.sees(one) for one in threads], key=len)


def is_row_of_rounds(threads, value):
    """Whether the value is the rounds of a run of these threads."""
    if not isinstance(value, tuple) or len(value) > MAX_ROUNDS:
        return False
    for one in value:
        if not isinstance(one, Round) or one.threads != threads:
            return False
    return True


def is_order(value):
    """Whether the value is a tuple of threads in some order."""
    if not isinstance(value, tuple) or not all([is_old_name(one) for one in value]):
        return False
    return is_threads(tuple(sorted(value)))


def check_run(run):
    """Refuses a value that is no run."""
    if not isinstance(run, Run):
        raise InvalidRun("a run is made by Run")


def check_length(length):
    """Refuses a value that is no number of rounds of a run."""
    check_between(length, 0, MAX_ROUNDS)


def rounds_text(rounds):
    """The texts of the rounds of a run."""
    if not rounds:
        return "no round"
    return ", ".join([str(one) for one in rounds])


def row_at(rounds, length, index):
    """The row at this index among all rows of so many of these rounds, which ascend as these do."""
    row = []
    # The digits of the index tell the rounds; the last round is the digit that changes first.
    for _ in range(length):
        index, digit = divmod(index, len(rounds))
        row.append(rounds[digit])
    return tuple(row[::-1])


def all_runs(threads, length):
    """All runs of these threads with so many rounds, ascending by their rounds."""
    check_threads(threads)
    check_length(length)
    rounds = list(all_rounds(threads)) if length else []
    # The rows of the last rounds are the same behind each row of the first ones: they are made only once.
    ends = [()]
    last = 0
    while last < length and len(ends) * len(rounds) <= MANY_ROWS:
        ends = [(one,) + end for one in rounds for end in ends]
        last += 1
    for index in range(run_count(len(threads), length - last)):
        start = row_at(rounds, length - last, index)
        for end in ends:
            yield Run(threads, start + end)


def run_count(size, length):
    """How many runs of so many threads there are with so many rounds."""
    each = round_count(size)
    check_length(length)
    total = 1
    for _ in range(length):
        total = total * each
    return total


def lined_run(order, length):
    """The run in which the threads come one by one in each round, in this order."""
    if not is_order(order):
        raise InvalidThreads("an order is a tuple of 1 to 5 unlike old names")
    check_length(length)
    line = Round(tuple([(one,) for one in order]))
    return Run(tuple(sorted(order)), tuple([line for _ in range(length)]))


def joint_run(threads, length):
    """The run in which all threads stand in one block in each round."""
    check_threads(threads)
    check_length(length)
    together = Round((threads,))
    return Run(threads, tuple([together for _ in range(length)]))
