"""Live tables, at which threads take new names by the shrinking rule while rounds go by."""

from fewnames.errors import InvalidOperation, InvalidRound, NothingToUndo
from fewnames.base.rounds import Round, check_threads
from fewnames.base.runs import MAX_ROUNDS, Run, is_round_on
from fewnames.base.values import check_many, check_member, is_member
from fewnames.make.makers import FIRST_PLACE, shrunk_round


class Table:
    """A table: in each round the running threads see each other, and some of them take new names."""

    def __init__(self, threads):
        check_threads(threads)
        self._running = threads
        self._names = {one: None for one in threads}
        self._places = {one: FIRST_PLACE for one in threads}
        self._run = Run(threads, ())
        # What the table was ahead of each change; none of it ever changes.
        self._past = []

    @property
    def threads(self):
        """All threads, ascending, those that have stopped included."""
        return self._run.threads

    @property
    def running(self):
        """The threads that have not stopped, ascending."""
        return self._running

    @property
    def names(self):
        """A dict from all threads to their new names, or to None."""
        return dict(self._names)

    @property
    def places(self):
        """A dict from the threads without a new name to the first name and the direction of their group."""
        return dict(self._places)

    @property
    def run(self):
        """The run of all threads so far, in which those that had stopped come last."""
        return self._run

    def go(self, extra):
        """Does a round, and returns a dict from the threads that take a new name in it to these."""
        if not is_round_on(self._running, extra):
            raise InvalidRound("the round is one on just the running threads")
        stopped = tuple([(one,) for one in self._run.threads if one not in self._running])
        longer = self._run.with_round(Round(extra.blocks + stopped))
        taken, places = shrunk_round(extra, self._places)
        self._past.append(self._state())
        self._names = {one: taken.get(one, self._names[one]) for one in self._names}
        self._places = places
        self._run = longer
        return taken

    def stop(self, thread):
        """Lets a thread stop, and returns its new name or None."""
        check_member(thread, self._running)
        if len(self._running) == 1:
            raise InvalidOperation("the only thread that runs cannot stop")
        self._past.append(self._state())
        self._running = tuple([one for one in self._running if one != thread])
        return self._names[thread]

    def finish(self, *, joint=True):
        """Does rounds as long as a running thread has no new name, at most until there are six; returns how many."""
        if joint is not True and joint is not False:
            raise InvalidOperation("the rounds are joint or not: True or False")
        blocks = (self._running,) if joint else tuple([(one,) for one in self._running])
        done = 0
        while bool(self) and len(self._run) < MAX_ROUNDS:
            self.go(Round(blocks))
            done += 1
        return done

    def undo(self, *, many=1):
        """Takes the last changes back, so many, and returns the threads that run then."""
        check_many(many)
        if many > len(self._past):
            raise NothingToUndo(many)
        for _ in range(many):
            self._restore(self._past.pop())
        return self._running

    def twin(self):
        """An equal table with an equal past that goes on by itself."""
        twin = Table(self._run.threads)
        twin._restore(self._state())
        twin._past = list(self._past)
        return twin

    def _state(self):
        """All that a change can change."""
        return (self._running, self._names, self._places, self._run)

    def _restore(self, state):
        """Puts all back that a change has changed."""
        self._running, self._names, self._places, self._run = state

    def __bool__(self):
        return any([self._names[one] is None for one in self._running])

    def __contains__(self, value):
        return is_member(value, self._running)

    def __len__(self):
        return len(self._run)

    def __eq__(self, other):
        return isinstance(other, Table) and self._running == other._running and self._run == other._run

    def __str__(self):
        named = [one for one in self._names if self._names[one] is not None]
        return f"table of {len(self._names)} threads: {len(self._run)} rounds, {len(named)} named"
