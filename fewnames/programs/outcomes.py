"""What programs come to in all runs of some threads."""

from fewnames.base.rounds import all_rounds
from fewnames.base.runs import Run, row_at
from fewnames.views.views import last_seen_in, ranked, row_of


def outcomes_of(program, many):
    """The new names that so many threads take in each of their runs, in the order of all_runs."""
    if many == 0:
        return [()]
    told = program.names
    patterns, rows = patterns_in_runs(many, program.length)
    names = [told[pattern] for pattern in patterns]
    return [tuple([names[at] for at in row]) for row in rows]


def patterns_in_runs(many, length):
    """A list of patterns, and for all runs of so many threads, in their order, the indexes of the patterns of these."""
    views, rows = views_in_runs(many, length)
    return ([ranked(view, last_seen_in(view)) for view in views], rows)


def views_in_runs(many, length):
    """A list of views, and for all runs of so many threads, in their order, the indexes of the views of these."""
    rounds = rounds_for(tuple(range(many)), length)
    views = [(thread, ()) for thread in range(many)]
    rows = [tuple(range(many))]
    for _ in range(length):
        carriers = [last_seen_in(view) for view in views]
        longer = {}
        more = []
        # A round that is put ahead of the others adds one row to each view, whatever the run: few views serve all runs.
        for given in rounds:
            places = []
            for view, carrier in zip(views, carriers):
                places.append(longer.setdefault((view[0], view[1] + (row_of(given, carrier),)), len(longer)))
            more.extend([tuple([places[at] for at in row]) for row in rows])
        views = list(longer)
        rows = more
    return (views, rows)


def signs_of(many, length):
    """The signs of all runs of so many threads, in the order of all_runs."""
    if many == 0:
        return [1]
    each = [given.sign for given in rounds_for(tuple(range(many)), length)]
    signs = [1]
    for _ in range(length):
        signs = [one * other for one in each for other in signs]
    return signs


def has_double(outcome):
    """Whether two threads take the same new name."""
    return len(set(outcome)) < len(outcome)


def runs_at(threads, length, indexes):
    """The runs of these threads at these indexes, in the order of all_runs."""
    rounds = rounds_for(threads, length)
    return [Run(threads, row_at(rounds, length, index)) for index in indexes]


def rounds_for(threads, length):
    """All rounds that can stand in runs of so many rounds, ascending."""
    return list(all_rounds(threads)) if length else []
