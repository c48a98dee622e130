"""Views, which are all that a thread knows behind a run, and their patterns."""

from math import comb

from fewnames.errors import InvalidView, TooMany
from fewnames.base.rounds import MAX_THREADS, Round, all_rows_of_blocks, check_renaming, is_threads
from fewnames.base.runs import MAX_ROUNDS, Run, check_length, check_run
from fewnames.base.values import check_between, check_member, is_old_name

MAX_PATTERNS = 1200

# How many rows there are in which so many told threads (from 1 on: the index of the tuple) are listed,
# and in which these together see so many told ones (from 1 on: the index in the tuple).
ROW_COUNTS = (
    (1, 1, 1, 1, 1),
    (0, 3, 5, 9, 17),
    (0, 0, 13, 31, 79),
    (0, 0, 0, 75, 233),
    (0, 0, 0, 0, 541),
)


def view_of(run, thread):
    """The view of a thread behind the run."""
    check_run(run)
    check_member(thread, run.threads)
    return view_behind(run, thread)


def views_of(run):
    """The views of all threads behind the run, in their order."""
    check_run(run)
    return tuple([view_behind(run, thread) for thread in run.threads])


def carrier_of(view):
    """All threads that stand in the view, ascending."""
    carrier = carrier_in(view)
    if not carrier:
        raise InvalidView("a view is a pair of a thread and its rows")
    return carrier


def pattern_of(view):
    """The pattern of the view."""
    return ranked(view, carrier_of(view))


def is_view(value):
    """Whether the value is the view of some thread behind some run."""
    return len(carrier_in(value)) > 0


def is_pattern(value):
    """Whether the value is a pattern."""
    return pattern_size(value) > 0


def run_with(view):
    """A run of the threads of the carrier behind which the thread has this view."""
    carrier = carrier_of(view)
    return Run(carrier, tuple([Round(blocks_with(row, carrier)) for row in view[1][::-1]]))


def renamed_view(view, names):
    """The view with other old names, by a dict from all threads of its carrier."""
    check_renaming(carrier_of(view), names)
    return in_order(with_names(view, names))


def all_patterns(size, length):
    """All patterns of at most so many threads behind so many rounds, ascending."""
    pattern_count(size, length)
    views = all_views(tuple(range(size)), length)
    return tuple(sorted([view for many in range(1, size + 1) for view in views.get(tuple(range(many)), [])]))


def pattern_count(size, length):
    """How many patterns of at most so many threads there are behind so many rounds."""
    check_between(size, 1, MAX_THREADS)
    check_length(length)
    # How many views behind no round have just 1, 2, .. told threads in their carriers.
    counts = [1] + [0] * (size - 1)
    for _ in range(length):
        counts = longer_counts(counts)
    if sum(counts) > MAX_PATTERNS:
        raise TooMany(MAX_PATTERNS)
    return sum(counts)


def view_behind(run, thread):
    """The view of a thread behind the run, where both are known to be right."""
    rows = []
    listed = (thread,)
    for given in run.rounds[::-1]:
        row = row_of(given, listed)
        rows.append(row)
        listed = widest(row)
    return (thread, tuple(rows))


def pattern_behind(run, thread):
    """The pattern of the view of a thread behind the run, where both are known to be right."""
    view = view_behind(run, thread)
    return ranked(view, last_seen_in(view))


def row_of(given, listed):
    """The row of a round in which these threads are listed."""
    return tuple([(one, given.sees(one)) for one in listed])


def widest(row):
    """Whom the listed threads of a row see together, ascending."""
    # Of two listed threads one sees all that the other one sees, so it is enough to take who sees the most.
    return max([seen for _, seen in row], key=len)


def last_seen_in(view):
    """The carrier of what is known to be a view."""
    # Each listed thread sees itself, so the row that is written last has all threads.
    return widest(view[1][-1]) if view[1] else (view[0],)


def carrier_in(value):
    """The carrier of a view, or () if the value is no view."""
    if not isinstance(value, tuple) or len(value) != 2 or not is_old_name(value[0]):
        return ()
    rows = value[1]
    if not isinstance(rows, tuple) or len(rows) > MAX_ROUNDS:
        return ()
    listed = (value[0],)
    for row in rows:
        if not is_row_of(row, listed) or not is_nested(row, listed):
            return ()
        listed = widest(row)
    return listed


def is_row_of(value, listed):
    """Whether the value has a pair of each listed thread, in their order, and of those that it sees."""
    if not isinstance(value, tuple) or len(value) != len(listed):
        return False
    for pair, thread in zip(value, listed):
        if not isinstance(pair, tuple) or len(pair) != 2:
            return False
        if not is_old_name(pair[0]) or pair[0] != thread or not is_threads(pair[1]) or thread not in pair[1]:
            return False
    return True


def is_nested(row, listed):
    """Whether the listed threads can see so in one round."""
    sights = sorted([seen for _, seen in row], key=len)
    for at, (less, more) in enumerate(zip(sights, sights[1:])):
        if less != more:
            kept = [one for one in less if one in more]
            # Whoever sees the less stands in it; another listed thread in it would see no more than it.
            ahead = [one for one in less if one in listed]
            if len(kept) < len(less) or len(ahead) != at + 1:
                return False
    return True


def pattern_size(value):
    """How many threads the carrier of a pattern has, or 0 if the value is no pattern."""
    carrier = carrier_in(value)
    if not carrier or carrier[-1] != len(carrier) - 1:
        return 0
    return len(carrier)


def ranked(view, carrier):
    """The view with the ranks in its carrier in place of the threads."""
    if carrier[-1] == len(carrier) - 1:
        return view
    return with_names(view, {one: rank for rank, one in enumerate(carrier)})


def with_names(view, names):
    """The view with other old names, where all threads stay at their places."""
    rows = [tuple([(names[one], tuple([names[two] for two in seen])) for one, seen in row]) for row in view[1]]
    return (names[view[0]], tuple(rows))


def in_order(view):
    """The view with all its threads in ascending order."""
    rows = [tuple(sorted([(one, tuple(sorted(seen))) for one, seen in row])) for row in view[1]]
    return (view[0], tuple(rows))


def mirrored_view(view):
    """The pattern in which the order of the threads is the other way round."""
    last = len(last_seen_in(view)) - 1
    return in_order(with_names(view, {one: last - one for one in range(last + 1)}))


def earlier_view(view):
    """What the thread of the view knew ahead of the last round."""
    rows = []
    listed = (view[0],)
    for row in view[1][1:]:
        rows.append(tuple([(one, seen) for one, seen in row if one in listed]))
        listed = widest(rows[-1])
    return (view[0], tuple(rows))


def blocks_with(row, carrier):
    """The blocks of a round of all threads of the carrier in which the listed ones see what the row says."""
    blocks = []
    ahead = ()
    for sight in sorted([seen for _, seen in row], key=len) + [carrier]:
        block = tuple([one for one in sight if one not in ahead])
        if block:
            blocks.append(block)
        ahead = sight
    return tuple(blocks)


def longer_counts(counts):
    """How many views with one round more have just 1, 2, .. told threads in their carriers."""
    # The carrier of the later rounds can be any of the threads, so many of them.
    return [
        sum([comb(many, less) * counts[less - 1] * ROW_COUNTS[less - 1][many - 1] for less in range(1, many + 1)])
        for many in range(1, len(counts) + 1)
    ]


def all_views(threads, length):
    """A dict from carriers among these threads to all views behind so many rounds that have them."""
    found = {(one,): [(one, ())] for one in threads}
    for _ in range(length):
        longer = {}
        for listed in found:
            for row in all_rows_on(listed, threads):
                longer.setdefault(widest(row), []).extend([(one, rows + (row,)) for one, rows in found[listed]])
        found = longer
    return found


def all_rows_on(listed, threads):
    """All rows in which just the listed ones of these threads stand."""
    others = [one for one in threads if one not in listed]
    found = []
    for blocks in all_rows_of_blocks(listed, {(): [()]}):
        for joined in all_joined(blocks, others):
            found.append(row_of(Round(joined), listed))
    return found


def all_joined(blocks, others):
    """All rows of blocks in which some of the others have joined these blocks."""
    rows = [blocks]
    for other in others:
        rows = rows + [
            row[:at] + (tuple(sorted(row[at] + (other,))),) + row[at + 1:] for row in rows for at in range(len(row))]
    return rows
