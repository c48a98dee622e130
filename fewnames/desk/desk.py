"""Desks: programs by names, with pins that hold at all times."""

from fewnames.errors import InvalidName, InvalidOperation, NothingToUndo, Refused, TooMany, UnknownName
from fewnames.base.values import check_many
from fewnames.desk.pins import does_hold, grade_of, is_name, is_pin, names_in
from fewnames.programs.programs import check_program

MAX_PROGRAMS = 8
MAX_PINS = 8

# With how many arguments each of the methods is called that change a desk.
CHANGES = {"enter": 2, "remove": 1, "give": 3, "lengthen": 1, "narrow": 2, "pin": 1, "unpin": 1}


class Desk:
    """A desk: each change is refused that would break a pin, and can be taken back."""

    def __init__(self):
        # None of these dicts and tuples ever changes: a change puts others in their place.
        self._programs = {}
        self._grades = {}
        self._pins = ()
        # What the desk was ahead of each change, and what it was behind each change that was taken back.
        self._past = []
        self._future = []

    @property
    def programs(self):
        """A dict from all names, ascending, to the programs."""
        return dict(self._programs)

    @property
    def grades(self):
        """A dict from all names, ascending, to the grades of the programs."""
        return dict(self._grades)

    @property
    def pins(self):
        """The pins, in the order in which they were pinned."""
        return self._pins

    def enter(self, name, program):
        """Adds or replaces a program, and returns the news."""
        if not is_name(name):
            raise InvalidName("a name has one to eight letters from a to z")
        check_program(program)
        return self._put(name, program)

    def remove(self, name):
        """Takes a program away, and returns the news."""
        self._check_there(name)
        programs = {one: self._programs[one] for one in self._programs if one != name}
        grades = {one: self._grades[one] for one in programs}
        return self._settle(programs, grades, self._pins)

    def give(self, name, view, new_name):
        """Gives another new name to the pattern of a view, and returns the news."""
        self._check_there(name)
        return self._put(name, self._programs[name].with_name(view, new_name))

    def lengthen(self, name):
        """Puts one round more behind those of a program, and returns the news."""
        self._check_there(name)
        return self._put(name, self._programs[name].lengthened())

    def narrow(self, name, size):
        """Puts the program for fewer threads in the place of a program, and returns the news."""
        self._check_there(name)
        return self._put(name, self._programs[name].for_fewer(size))

    def pin(self, pin):
        """Adds a pin, and returns no news."""
        self._check_pin(pin)
        if pin in self._pins:
            raise InvalidOperation("the pin is there already")
        if len(self._pins) == MAX_PINS:
            raise TooMany(MAX_PINS)
        return self._settle(self._programs, self._grades, self._pins + (pin,))

    def unpin(self, pin):
        """Takes a pin away, and returns no news."""
        self._check_pin(pin)
        if pin not in self._pins:
            raise InvalidOperation("the pin is not there")
        return self._settle(self._programs, self._grades, tuple([one for one in self._pins if one != pin]))

    def trial(self, *changes):
        """What the changes would return, one behind the other, without effect."""
        for change in changes:
            if not is_change(change):
                raise InvalidOperation("a change is a tuple of the name of a method and its arguments")
        twin = self.twin()
        return tuple([done(twin, change) for change in changes])

    def undo(self, *, many=1):
        """Takes the last changes back, so many, and returns the news."""
        return self._step(many, self._past, self._future)

    def redo(self, *, many=1):
        """Makes the last changes again that were taken back, so many, and returns the news."""
        return self._step(many, self._future, self._past)

    def twin(self):
        """An equal desk with equal histories that goes on by itself."""
        twin = Desk()
        twin._restore(self._state())
        twin._past = list(self._past)
        twin._future = list(self._future)
        return twin

    def _state(self):
        """All that a change can change."""
        return (self._programs, self._grades, self._pins)

    def _restore(self, state):
        """Puts all in place of what is there."""
        self._programs, self._grades, self._pins = state

    def _step(self, many, ahead, behind):
        """Goes so many states ahead, leaves the ones that it comes from behind, and returns the news."""
        check_many(many)
        if many > len(ahead):
            raise NothingToUndo(many)
        grades = self._grades
        for _ in range(many):
            behind.append(self._state())
            self._restore(ahead.pop())
        return news_between(grades, self._grades)

    def _check_there(self, name):
        """Refuses a name that no program has."""
        if name not in self:
            raise UnknownName(name)

    def _check_pin(self, pin):
        """Refuses a value that is no pin about names that are there."""
        if not is_pin(pin) or not are_there(names_in(pin), self._programs):
            raise InvalidOperation("a pin is about programs that are there")

    def _put(self, name, program):
        """Puts a program under a name, and returns the news."""
        programs = {**self._programs, name: program}
        grades = {**self._grades, name: grade_of(program)}
        names = sorted(list(programs))
        return self._settle({one: programs[one] for one in names}, {one: grades[one] for one in names}, self._pins)

    def _settle(self, programs, grades, pins):
        """Makes a change unless it is refused, and returns the news."""
        for pin in pins:
            if not are_there(names_in(pin), programs):
                raise InvalidOperation("a pin would name what is not there")
        if len(programs) > MAX_PROGRAMS:
            raise TooMany(MAX_PROGRAMS)
        for pin in pins:
            if not does_hold(pin, programs, grades):
                raise Refused(pin)
        news = news_between(self._grades, grades)
        self._past.append(self._state())
        self._future = []
        self._restore((programs, grades, pins))
        return news

    def __getitem__(self, name):
        if name not in self:
            raise UnknownName(name)
        return self._programs[name]

    def __contains__(self, value):
        return is_name(value) and value in self._programs

    def __iter__(self):
        return iter(self._programs)

    def __len__(self):
        return len(self._programs)

    def __eq__(self, other):
        return isinstance(other, Desk) and self._programs == other._programs and self._pins == other._pins

    def __str__(self):
        return f"desk of {len(self._programs)} programs, {len(self._pins)} pins"


def is_change(value):
    """Whether the value is a tuple of the name of a method that changes a desk, and of as many arguments as it has."""
    if not isinstance(value, tuple) or not value or not isinstance(value[0], str):
        return False
    return value[0] in CHANGES and len(value) == 1 + CHANGES[value[0]]


def done(desk, change):
    """What a desk returns for a change."""
    word = change[0]
    if word == "enter":
        return desk.enter(change[1], change[2])
    if word == "remove":
        return desk.remove(change[1])
    if word == "give":
        return desk.give(change[1], change[2], change[3])
    if word == "lengthen":
        return desk.lengthen(change[1])
    if word == "narrow":
        return desk.narrow(change[1], change[2])
    if word == "pin":
        return desk.pin(change[1])
    return desk.unpin(change[1])


def are_there(names, programs):
    """Whether there are programs of all these names."""
    return all([name in programs for name in names])


def news_between(before, after):
    """For each name whose grade is another one than before the tuple of it and both grades, ascending."""
    names = sorted(set(list(before) + list(after)))
    rows = [(name, before.get(name), after.get(name)) for name in names]
    return tuple([(name, old, new) for name, old, new in rows if old != new])
