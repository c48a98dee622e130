"""Values that many tests use."""

import copy
from itertools import permutations, product

from fewnames import errors
from fewnames.base.rounds import Round
from fewnames.base.runs import Run, all_runs
from fewnames.desk.desk import Desk
from fewnames.make.makers import combined_program, rank_program, shrinking_program
from fewnames.make.tables import Table
from fewnames.programs.programs import Program
from fewnames.tasks.choices import greatest_choice, least_choice
from fewnames.text.shell import Shell
from fewnames.views.views import all_patterns

APART = Round(((0,), (1,)))
BACK = Round(((1,), (0,)))
TOGETHER = Round(((0, 1),))

RANKS = rank_program(2)

# The greatest integer that is let, and the least one that is too long.
LONGEST = 10 ** 60 - 1
TOO_LONG = 10 ** 60

DEEP_TUPLE = ((((((((0,),),),),),),),)
DEEP_LIST = [[[[[[[[0]]]]]]]]


def odd_values():
    """Values of each kind that can be passed, none of which is an integer of at most sixty digits."""
    return [
        None, True, False, "", "0", "0 1", "a\nb", "x" * 2000, (), (0,), (0, 1), (True,), (None,), [], [0], [0, 1],
        {}, {0: 1}, {"a": None}, DEEP_TUPLE, DEEP_LIST, {0: {0: {0: [((0,),)]}}},
        TOO_LONG, -TOO_LONG, 10 ** 99, -(10 ** 99), APART, TOGETHER, Run((0, 1), (APART,)), RANKS,
        Table((0, 1)), Desk(), Shell(), errors.InvalidNumber(0), errors.FewError("0"), ((0,), (1,)), ((1,), (0,)), [(0,), (1,)],
    ]


def plain_rows(threads):
    """All rows of blocks of these threads, ascending, found by giving each thread the index of its block."""
    found = []
    for places in product(range(len(threads)), repeat=len(threads)):
        used = sorted(set(places))
        if used == list(range(len(used))):
            found.append(tuple(
                tuple(one for one, place in zip(threads, places) if place == block) for block in used))
    return sorted(found)


def plain_sees(blocks, thread):
    """Whom a thread sees, by the words of the document."""
    seen = []
    for block in blocks:
        seen.extend(block)
        if thread in block:
            return tuple(sorted(seen))


def plain_known(rows, threads, thread):
    """Whom a thread knows: forwards, round by round, each thread takes along what those knew that it sees."""
    known = {one: {one} for one in threads}
    for blocks in rows:
        known = {one: set().union(*[known[seen] for seen in plain_sees(blocks, one)]) for one in threads}
    return tuple(sorted(known[thread]))


def plain_sign(blocks):
    """The sign of a round, by the words of the document."""
    threads = sum(len(block) for block in blocks)
    return (-1) ** (threads - len(blocks))


def all_orders(threads):
    return list(permutations(threads))


def plain_view(run, thread):
    """The view of a thread behind the run, written row by row as the document says."""
    rows = []
    listed = {thread}
    for given in reversed(run.rounds):
        rows.append(tuple((one, plain_sees(given.blocks, one)) for one in sorted(listed)))
        listed = set().union(*[plain_sees(given.blocks, one) for one in listed])
    return (thread, tuple(rows))


def plain_carrier(view):
    """All threads that stand in a view."""
    found = {view[0]}
    for row in view[1]:
        for one, seen in row:
            found |= {one, *seen}
    return tuple(sorted(found))


def plain_renamed(view, names):
    """The view with other old names."""
    rows = tuple(
        tuple(sorted((names[one], tuple(sorted(names[two] for two in seen))) for one, seen in row)) for row in view[1])
    return (names[view[0]], rows)


def plain_pattern(view):
    """The view with the ranks in the carrier in place of the threads."""
    return plain_renamed(view, {one: rank for rank, one in enumerate(plain_carrier(view))})


def runs_of_few():
    """All runs of few threads with few rounds."""
    return [run for size, most in ((1, 3), (2, 3), (3, 2)) for length in range(most + 1)
            for run in all_runs((2, 5, 8)[:size], length)]


def assert_given(test, error, kept, value, call, *arguments):
    """The call raises this error, which keeps just this value."""
    with test.assertRaises(error) as caught:
        call(*arguments)
    found = getattr(caught.exception, kept)
    test.assertEqual([found, found.__class__], [value, value.__class__])


def assert_untouched(test, call, *arguments):
    """Twice the same call gives equal results, and leaves its arguments as they are."""
    before = copy.deepcopy(arguments)
    one = call(*arguments)
    test.assertEqual(call(*arguments), one)
    test.assertEqual(arguments, before)
    for this, that in zip(arguments, before):
        if isinstance(this, dict):
            test.assertEqual(list(this.items()), list(that.items()))
    return one


def mixed(size, length, greatest=99):
    """A program with new names to this one, in no order."""
    patterns = all_patterns(size, length)
    return Program(size, length, {one: (7 * at * at + 3 * at + at // 5) % greatest + 1 for at, one in enumerate(patterns)})


def some_programs():
    """Programs of all sizes, good ones and others, made ones and others, with few and with many new names."""
    made = [rank_program(size) for size in range(1, 6)]
    made += [rank_program(2).lengthened().mirrored(), rank_program(3).lengthened(), rank_program(4).for_fewer(2)]
    made += [rank_program(3).mapped({1: 9, 2: 99, 3: 1, 4: 30, 5: 2, 6: 98}), shrinking_program(3)]
    pairs = {pair: 10 * pair[0] + pair[1] for pair in product((1, 2, 3), repeat=2)}
    made += [combined_program(RANKS, RANKS, pairs), greatest_choice(3, 1), least_choice(2, 2)]
    shapes = [(1, 0), (1, 3), (2, 0), (2, 1), (2, 3), (3, 0), (3, 1), (3, 2), (4, 1), (5, 0), (5, 1)]
    return made + [mixed(size, length, greatest) for size, length in shapes for greatest in (1, 2, max(1, 2 * size - 2), 99)]


def plain_outcomes(program, many):
    """For all runs of so many threads, in their order, the new names that these take, with the sign of the run."""
    return [(tuple(program.names_in(run).values()), run.sign) for run in all_runs(tuple(range(many)), program.length)]


def plain_shrunk(rounds, threads):
    """The new names by the shrinking rule, and the groups behind the rounds, which are kept as lists of threads."""
    names = {}
    groups = [(sorted(threads), 1, 1)]
    for blocks in rounds:
        later = []
        for group, first, direction in groups:
            parts = {}
            for one in group:
                looked_at = tuple(other for other in plain_sees(blocks, one) or () if other in group)
                parts.setdefault(looked_at, []).append(one)
            for looked_at, part in parts.items():
                many = len(looked_at)
                rest = [one for one in part if not looked_at or one != looked_at[-1]]
                if rest != part:
                    names[looked_at[-1]] = first + direction * (2 * many - 2)
                if not looked_at:
                    later.append((rest, first, direction))
                elif rest:
                    later.append((rest, first + direction * (2 * many - 3), -direction))
        groups = later
    return names, groups


def plain_shrunk_names(run):
    """The new names by the shrinking rule, with its sentence on the last round."""
    names, groups = plain_shrunk([given.blocks for given in run.rounds], run.threads)
    for group, first, _ in groups:
        if len(group) == 1:
            names[group[0]] = first
    return {one: names[one] for one in sorted(names)}


def some_runs(threads, length, step):
    """Each so many-th run of these threads, in the order of all_runs."""
    rounds = [Round(blocks) for blocks in plain_rows(threads)]
    found = []
    for index in range(0, len(rounds) ** length, step):
        places = [index // len(rounds) ** at % len(rounds) for at in reversed(range(length))]
        found.append(Run(threads, tuple(rounds[place] for place in places)))
    return found
