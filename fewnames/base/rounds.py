"""Rounds: rows of blocks of threads."""

from fewnames.errors import InvalidNumber, InvalidOperation, InvalidRound, InvalidThreads
from fewnames.base.values import TOO_LONG, check_between, is_member, is_old_name

MAX_THREADS = 5

# How many rounds there are on one thread, on two threads, and so on.
ROUND_COUNTS = (1, 3, 13, 75, 541)


class Round:
    """A round: each thread sees its own block and all blocks ahead of it."""

    def __init__(self, blocks):
        places = places_in(blocks)
        if not 1 <= len(places) <= MAX_THREADS:
            raise InvalidRound("a round is a tuple of ascending tuples of unlike old names")
        self._blocks = blocks
        self._places = places
        self._threads = tuple(sorted(places))
        last = blocks[-1]
        self._unseen = last[0] if len(last) == 1 else None
        self._seen = None

    @property
    def blocks(self):
        """The blocks, the first one first."""
        return self._blocks

    @property
    def threads(self):
        """All threads, ascending."""
        return self._threads

    @property
    def sign(self):
        """1 if the number of threads less that of blocks is even, else -1."""
        return 1 if (len(self._threads) - len(self._blocks)) % 2 == 0 else -1

    def sees(self, thread):
        """The threads that this thread sees, itself included, ascending."""
        if not is_member(thread, self._places):
            raise InvalidNumber(thread)
        if self._seen is None:
            # A round never changes, so what is seen in it is reckoned only once.
            self._seen = seen_in(self._blocks)
        return self._seen[self._places[thread]]

    def block_of(self, thread):
        """The index of the block of this thread."""
        if not is_member(thread, self._places):
            raise InvalidNumber(thread)
        return self._places[thread]

    def without(self, thread):
        """The round of the other threads."""
        at = self.block_of(thread)
        if len(self._threads) == 1:
            raise InvalidOperation("a round has at least one thread")
        rest = block_without(self._blocks[at], thread)
        return Round(self._blocks[:at] + ((rest,) if rest else ()) + self._blocks[at + 1:])

    def moved(self, thread):
        """The round in which this thread has joined the next block, or has left its own one."""
        at = self.block_of(thread)
        block = self._blocks[at]
        ahead = self._blocks[:at]
        behind = self._blocks[at + 1:]
        if len(block) > 1:
            return Round(ahead + ((thread,), block_without(block, thread)) + behind)
        if not behind:
            raise InvalidOperation("a thread that is alone in the last block has no block to join")
        joined = tuple(sorted(block + behind[0]))
        return Round(ahead + (joined,) + behind[1:])

    def is_seen(self, thread):
        """Whether another thread sees this one."""
        if not is_member(thread, self._places):
            raise InvalidNumber(thread)
        return thread != self._unseen

    def renamed(self, names):
        """The round with other old names, by a dict from all its threads."""
        check_renaming(self._threads, names)
        return Round(renamed_blocks(self._blocks, names))

    def __contains__(self, value):
        return is_member(value, self._threads)

    def __iter__(self):
        return iter(self._blocks)

    def __len__(self):
        return len(self._blocks)

    def __eq__(self, other):
        return isinstance(other, Round) and self._blocks == other._blocks

    def __str__(self):
        return "|".join([" ".join([str(one) for one in block]) for block in self._blocks])


def is_threads(value):
    """Whether the value is a tuple of threads."""
    if not isinstance(value, tuple) or not 1 <= len(value) <= MAX_THREADS:
        return False
    last = -1
    for one in value:
        # Only integers are compared: other values may have no order among them.
        if not isinstance(one, int) or one is True or one is False or not last < one < TOO_LONG:
            return False
        last = one
    return True


def places_in(blocks):
    """A dict from the threads to the indexes of their blocks, empty if these are no blocks of threads."""
    places = {}
    if not isinstance(blocks, tuple):
        return places
    for at, block in enumerate(blocks):
        if not is_threads(block):
            return {}
        for one in block:
            if one in places:
                return {}
            places[one] = at
    return places


def seen_in(blocks):
    """For each block the threads that its threads see, ascending."""
    seen = [blocks[0]]
    for block in blocks[1:]:
        seen.append(tuple(sorted(seen[-1] + block)))
    return seen


def is_renaming(threads, value):
    """Whether the value is a dict from just these threads to unlike old names."""
    if not isinstance(value, dict) or len(value) != len(threads):
        return False
    for key in value:
        if not is_member(key, threads) or not is_old_name(value[key]):
            return False
    return len(set(list(value.values()))) == len(value)


def check_threads(threads):
    """Refuses a value that is no tuple of threads."""
    if not is_threads(threads):
        raise InvalidThreads("threads are an ascending tuple of 1 to 5 old names")


def check_renaming(threads, names):
    """Refuses a value that is no dict from just these threads to unlike old names."""
    if not is_renaming(threads, names):
        raise InvalidOperation("new old names are a dict from just all threads to unlike old names")


def renamed_blocks(blocks, names):
    """The blocks with other old names."""
    return tuple([tuple(sorted([names[one] for one in block])) for block in blocks])


def block_without(block, thread):
    """The block of the others."""
    at = block.index(thread)
    return block[:at] + block[at + 1:]


def all_blocks(threads):
    """All blocks that some of these threads can form, ascending."""
    found = []
    for thread in threads[::-1]:
        # Those that begin with this thread come ahead of those that begin with a later one.
        found = [(thread,)] + [(thread,) + others for others in found] + found
    return found


def all_rows_of_blocks(threads, told):
    """All rows of blocks in which each of these threads stands once, ascending; `told` keeps those of fewer threads."""
    if threads in told:
        return told[threads]
    found = []
    for first in all_blocks(threads):
        others = tuple([one for one in threads if one not in first])
        for row in all_rows_of_blocks(others, told):
            found.append((first,) + row)
    told[threads] = found
    return found


def all_rounds(threads):
    """All rounds on these threads, ascending by their blocks."""
    check_threads(threads)
    for blocks in all_rows_of_blocks(threads, {(): [()]}):
        yield Round(blocks)


def round_count(size):
    """How many rounds there are on so many threads."""
    check_between(size, 1, MAX_THREADS)
    return ROUND_COUNTS[size - 1]
