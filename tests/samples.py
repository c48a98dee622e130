"""Values that many tests use."""

from itertools import permutations, product

from fewnames import errors
from fewnames.base.rounds import Round
from fewnames.base.runs import Run

APART = Round(((0,), (1,)))
BACK = Round(((1,), (0,)))
TOGETHER = Round(((0, 1),))

# The greatest integer that is let, and the least one that is too long.
LONGEST = 10 ** 60 - 1
TOO_LONG = 10 ** 60

DEEP_TUPLE = ((((((((0,),),),),),),),)
DEEP_LIST = [[[[[[[[0]]]]]]]]


def odd_values():
    """Values of each kind that can be passed, none of which is an integer of at most sixty digits."""
    return [
        None, True, False, "", "0", "0 1", "a\nb", "x" * 2000, (), (0,), (0, 1), (True,), (None,), [], [0], [0, 1],
        {}, {0: 1}, {"a": None}, DEEP_TUPLE, DEEP_LIST, {0: {0: {0: [((0,),)]}}},
        TOO_LONG, -TOO_LONG, 10 ** 99, -(10 ** 99), APART, TOGETHER, Run((0, 1), (APART,)),
        errors.InvalidNumber(0), errors.FewError("0"), ((0,), (1,)), ((1,), (0,)), [(0,), (1,)],
    ]


def plain_rows(threads):
    """All rows of blocks of these threads, ascending, found by giving each thread the index of its block."""
    found = []
    for places in product(range(len(threads)), repeat=len(threads)):
        used = sorted(set(places))
        if used == list(range(len(used))):
            found.append(tuple(
                tuple(one for one, place in zip(threads, places) if place == block) for block in used))
    return sorted(found)


def plain_sees(blocks, thread):
    """Whom a thread sees, by the words of the document."""
    seen = []
    for block in blocks:
        seen.extend(block)
        if thread in block:
            return tuple(sorted(seen))


def plain_known(rows, threads, thread):
    """Whom a thread knows: forwards, round by round, each thread takes along what those knew that it sees."""
    known = {one: {one} for one in threads}
    for blocks in rows:
        known = {one: set().union(*[known[seen] for seen in plain_sees(blocks, one)]) for one in threads}
    return tuple(sorted(known[thread]))


def plain_sign(blocks):
    """The sign of a round, by the words of the document."""
    threads = sum(len(block) for block in blocks)
    return (-1) ** (threads - len(blocks))


def all_orders(threads):
    return list(permutations(threads))
