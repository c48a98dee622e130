"""Pins, which are what is promised of the programs of a desk."""

from fewnames.programs.checks import is_good
from fewnames.programs.programs import is_new_name
from fewnames.tasks.choices import is_choice

MAX_LETTERS = 8

# How many names stand in a pin of each kind; the number of `within` stands behind its name.
NAMES_IN_PINS = {"good": 1, "within": 1, "choice": 1, "below": 2}

# The grade of a program that is not good.
DOUBLE = "double"


def is_name(value):
    """Whether the value is a name of a program: one to eight letters."""
    if not isinstance(value, str) or not 1 <= len(value) <= MAX_LETTERS:
        return False
    return all(["a" <= letter <= "z" for letter in value])


def is_pin(value):
    """Whether the value is a pin about whatever names."""
    if not isinstance(value, tuple) or not value or not is_kind(value[0]):
        return False
    names = names_in(value)
    rest = value[1 + len(names):]
    if len(names) < NAMES_IN_PINS[value[0]] or not all([is_name(name) for name in names]):
        return False
    if value[0] == "within":
        return len(rest) == 1 and is_new_name(rest[0])
    return not rest and len(set(names)) == len(names)


def is_kind(value):
    """Whether the value is the kind of a pin."""
    return isinstance(value, str) and value in NAMES_IN_PINS


def names_in(pin):
    """The names that stand in the pin."""
    return pin[1:1 + NAMES_IN_PINS[pin[0]]]


def grade_of(program):
    """The grade of a program."""
    return program.greatest if is_good(program) else DOUBLE


def does_hold(pin, programs, grades):
    """Whether a pin about names that are there holds."""
    kind = pin[0]
    if kind == "choice":
        return is_choice(programs[pin[1]])
    grade = grades[pin[1]]
    if grade == DOUBLE:
        return False
    if kind == "within":
        return grade <= pin[2]
    if kind == "below":
        return is_below(programs, grades, pin[1], pin[2])
    return True


def is_below(programs, grades, one, other):
    """Whether the grade of a good program is less than that of another good one, for equally many threads."""
    if grades[other] == DOUBLE or programs[one].size != programs[other].size:
        return False
    return grades[one] < grades[other]
