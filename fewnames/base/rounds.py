"""Rounds: rows of blocks of threads."""

from fewnames.errors import InvalidOperation, InvalidRound, InvalidThreads
from fewnames.base.values import check_between, check_member, is_member, is_old_name

MAX_THREADS = 5

# How many rounds there are on one thread, on two threads, and so on.
ROUND_COUNTS = (1, 3, 13, 75, 541)


class Round:
    """A round: each thread sees its own block and all blocks ahead of it."""

    def __init__(self, blocks):
        if not is_row_of_blocks(blocks):
            raise InvalidRound("a round is a tuple of ascending tuples of unlike old names")
        self._blocks = blocks
        self._threads = tuple(sorted(threads_in(blocks)))

    @property
    def blocks(self):
        """The blocks, the first one first."""
        return self._blocks

    @property
    def threads(self):
        """All threads, ascending."""
        return self._threads

    @property
    def sign(self):
        """1 if the number of threads less that of blocks is even, else -1."""
        return 1 if (len(self._threads) - len(self._blocks)) % 2 == 0 else -1

    def sees(self, thread):
        """The threads that this thread sees, itself included, ascending."""
        at = self.block_of(thread)
        return tuple(sorted(threads_in(self._blocks[:at + 1])))

    def block_of(self, thread):
        """The index of the block of this thread."""
        check_member(thread, self._threads)
        return [at for at, block in enumerate(self._blocks) if thread in block][0]

    def without(self, thread):
        """The round of the other threads."""
        check_member(thread, self._threads)
        if len(self._threads) == 1:
            raise InvalidOperation("a round has at least one thread")
        rest = [block_without(block, thread) for block in self._blocks]
        return Round(tuple([block for block in rest if block]))

    def moved(self, thread):
        """The round in which this thread has joined the next block, or has left its own one."""
        at = self.block_of(thread)
        block = self._blocks[at]
        ahead = self._blocks[:at]
        behind = self._blocks[at + 1:]
        if len(block) > 1:
            return Round(ahead + ((thread,), block_without(block, thread)) + behind)
        if not behind:
            raise InvalidOperation("a thread that is alone in the last block has no block to join")
        joined = tuple(sorted(block + behind[0]))
        return Round(ahead + (joined,) + behind[1:])

    def is_seen(self, thread):
        """Whether another thread sees this one."""
        at = self.block_of(thread)
        return len(self._blocks[at]) > 1 or at + 1 < len(self._blocks)

    def renamed(self, names):
        """The round with other old names, by a dict from all its threads."""
        check_renaming(self._threads, names)
        return Round(tuple([tuple(sorted([names[one] for one in block])) for block in self._blocks]))

    def __contains__(self, value):
        return is_member(value, self._threads)

    def __iter__(self):
        return iter(self._blocks)

    def __len__(self):
        return len(self._blocks)

    def __eq__(self, other):
        return isinstance(other, Round) and self._blocks == other._blocks

    def __str__(self):
        return "|".join([" ".join([str(one) for one in block]) for block in self._blocks])


def is_threads(value):
    """Whether the value is a tuple of threads."""
    if not isinstance(value, tuple) or not 1 <= len(value) <= MAX_THREADS:
        return False
    # Only old names are compared: other values may have no order among them.
    if not all([is_old_name(one) for one in value]):
        return False
    return sorted(set(value)) == list(value)


def is_row_of_blocks(value):
    """Whether the value is the blocks of a round."""
    if not isinstance(value, tuple) or not all([is_threads(block) for block in value]):
        return False
    threads = threads_in(value)
    return 1 <= len(threads) <= MAX_THREADS and len(set(threads)) == len(threads)


def is_renaming(threads, value):
    """Whether the value is a dict from just these threads to unlike old names."""
    if not isinstance(value, dict) or len(value) != len(threads):
        return False
    names = list(value.values())
    if not all([is_member(key, threads) for key in value]) or not all([is_old_name(name) for name in names]):
        return False
    return len(set(names)) == len(names)


def check_threads(threads):
    """Refuses a value that is no tuple of threads."""
    if not is_threads(threads):
        raise InvalidThreads("threads are an ascending tuple of 1 to 5 old names")


def check_renaming(threads, names):
    """Refuses a value that is no dict from just these threads to unlike old names."""
    if not is_renaming(threads, names):
        raise InvalidOperation("new old names are a dict from just all threads to unlike old names")


def threads_in(blocks):
    """The threads of these blocks, in the order in which they stand there."""
    return [one for block in blocks for one in block]


def block_without(block, thread):
    """The block of the others."""
    return tuple([one for one in block if one != thread])


def all_blocks(threads):
    """All blocks that some of these threads can form, ascending."""
    found = []
    for at, thread in enumerate(threads):
        found.append((thread,))
        for others in all_blocks(threads[at + 1:]):
            found.append((thread,) + others)
    return found


def all_rows_of_blocks(threads):
    """All rows of blocks in which each of these threads stands once, ascending."""
    if not threads:
        return [()]
    found = []
    for first in all_blocks(threads):
        others = tuple([one for one in threads if one not in first])
        for row in all_rows_of_blocks(others):
            found.append((first,) + row)
    return found


def all_rounds(threads):
    """All rounds on these threads, ascending by their blocks."""
    check_threads(threads)
    for blocks in all_rows_of_blocks(threads):
        yield Round(blocks)


def round_count(size):
    """How many rounds there are on so many threads."""
    check_between(size, 1, MAX_THREADS)
    return ROUND_COUNTS[size - 1]
