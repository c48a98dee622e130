"""The shell: commands to a desk, and their answers."""

from fewnames.errors import (
    InvalidNumber, InvalidOperation, InvalidProgram, InvalidRun, NothingToUndo, ParseError, Refused, TooMany,
    UnknownName)
from fewnames.counts.binomials import is_barred
from fewnames.counts.marks import triangle_of
from fewnames.desk.desk import Desk
from fewnames.desk.pins import is_name
from fewnames.make.makers import rank_program, shrinking_program
from fewnames.programs.checks import found_double
from fewnames.programs.programs import is_new_name
from fewnames.text.texts import (
    MANY_DIGITS, is_number, joined, read_group, read_program, read_run, write_program, write_run)

# What stands behind the first word of each command.
FORMS = {
    "enter": ("name", "program"), "rank": ("name", "number"), "shrink": ("name", "number"), "remove": ("name",),
    "lengthen": ("name",), "narrow": ("name", "number"), "undo": ("number",), "redo": ("number",), "grade": ("name",),
    "grades": (), "double": ("name",), "names": ("name", "run"), "triangle": ("name", "group"),
    "barred": ("number", "number"), "show": ("name",), "list": (),
}

# What stands behind the kind of each pin.
PIN_FORMS = {"good": ("name",), "within": ("name", "new name"), "choice": ("name",), "below": ("name", "name")}

NOTHING = "none"


class Shell:
    """A shell: an answer to each command, and a desk that the commands change."""

    def __init__(self):
        self._desk = Desk()
        # The commands that were answered without an error.
        self._answered = []

    def desk(self):
        """A twin of the desk."""
        return self._desk.twin()

    def __call__(self, command):
        try:
            word, arguments = read_command(command)
        except ParseError:
            return "what"
        action = ACTIONS[word]
        desk = self._desk
        try:
            answer = action(desk, *arguments)
        except UnknownName as unknown:
            return f"unknown {unknown.wanted}"
        except Refused as refused:
            return f"refused {joined(refused.claim)}"
        except TooMany as excess:
            return f"many {excess.limit}"
        except NothingToUndo as lack:
            return f"nothing {lack.many}"
        except (InvalidOperation, InvalidNumber, InvalidRun, InvalidProgram):
            return "no"
        self._answered.append(command)
        return answer

    def __len__(self):
        return len(self._answered)

    def __str__(self):
        return f"shell of {len(self._answered)} commands"


def read_command(command):
    """The first word of a command and what stands behind it."""
    if not isinstance(command, str):
        raise ParseError(None)
    words = command.split(" ")
    word = words[0]
    rest = words[1:]
    if word in ("undo", "redo") and not rest:
        return word, (1,)
    if word in ("pin", "unpin"):
        return word, (read_pin(rest),)
    if word not in FORMS:
        raise ParseError(None)
    return word, arguments_in(FORMS[word], rest)


def read_pin(words):
    """The pin that is written so."""
    if not words or words[0] not in PIN_FORMS:
        raise ParseError(None)
    return (words[0],) + arguments_in(PIN_FORMS[words[0]], words[1:])


def arguments_in(form, words):
    """What the words say, by the kinds in the form."""
    texts = words
    if len(words) > len(form) > 0:
        # The last text goes on to the end, since those of programs, runs and groups can have blanks.
        texts = words[:len(form) - 1] + [" ".join(words[len(form) - 1:])]
    if len(texts) != len(form):
        raise ParseError(None)
    return tuple([argument_in(kind, text) for kind, text in zip(form, texts)])


def argument_in(kind, text):
    """What has this text, by its kind."""
    if kind == "program":
        return read_program(text)
    if kind == "run":
        return read_run(text)
    if kind == "group":
        return read_group(text)
    if kind == "name":
        return read_name(text)
    return read_number(text, kind == "new name")


def read_name(text):
    """The name, which is the text itself."""
    if not is_name(text):
        raise ParseError(None)
    return text


def read_number(text, has_limit):
    """The number that has this text, a new name if it has a limit."""
    if not is_number(text) or len(text) > MANY_DIGITS:
        raise ParseError(None)
    number = int(text)
    if has_limit and not is_new_name(number):
        raise ParseError(None)
    return number


def news_text(news):
    """The text of the news of a change."""
    if not news:
        return NOTHING
    return ", ".join([f"{name} {grade_text(old)} {grade_text(new)}" for name, old, new in news])


def grade_text(grade):
    """The text of a grade, or of None."""
    return "-" if grade is None else str(grade)


def answer_enter(desk, name, program):
    """Enters a program."""
    return news_text(desk.enter(name, program))


def answer_rank(desk, name, size):
    """Enters the program by ranks."""
    return news_text(desk.enter(name, rank_program(size)))


def answer_shrink(desk, name, size):
    """Enters the program by the shrinking rule."""
    return news_text(desk.enter(name, shrinking_program(size)))


def answer_remove(desk, name):
    """Removes a program."""
    return news_text(desk.remove(name))


def answer_lengthen(desk, name):
    """Lengthens a program."""
    return news_text(desk.lengthen(name))


def answer_narrow(desk, name, size):
    """Narrows a program."""
    return news_text(desk.narrow(name, size))


def answer_pin(desk, pin):
    """Adds a pin."""
    return news_text(desk.pin(pin))


def answer_unpin(desk, pin):
    """Takes a pin away."""
    return news_text(desk.unpin(pin))


def answer_undo(desk, many):
    """Takes changes back."""
    return news_text(desk.undo(many=many))


def answer_redo(desk, many):
    """Makes changes again."""
    return news_text(desk.redo(many=many))


def answer_grade(desk, name):
    """Tells the grade of a program."""
    if name not in desk:
        raise UnknownName(name)
    return grade_text(desk.grades[name])


def answer_grades(desk):
    """Tells all names with the grades."""
    grades = desk.grades
    return " ".join([f"{name}:{grade_text(grades[name])}" for name in grades]) if grades else NOTHING


def answer_double(desk, name):
    """Tells the run of a double of a program."""
    found = found_double(desk[name])
    return NOTHING if found is None else write_run(found[0])


def answer_names(desk, name, run):
    """Tells the new names of the threads of a run."""
    return joined(list(desk[name].names_in(run).values()))


def answer_triangle(desk, name, group):
    """Tells the last row of a triangle."""
    return joined(triangle_of(desk[name], group)[-1])


def answer_barred(desk, size, names):
    """Tells whether so many names are barred for so many threads."""
    return "yes" if is_barred(size, names) else "no"


def answer_show(desk, name):
    """Tells the text of a program."""
    return write_program(desk[name])


def answer_list(desk):
    """Tells all names."""
    return " ".join(list(desk)) if len(desk) > 0 else NOTHING


ACTIONS = {
    "enter": answer_enter, "rank": answer_rank, "shrink": answer_shrink, "remove": answer_remove,
    "lengthen": answer_lengthen, "narrow": answer_narrow, "pin": answer_pin, "unpin": answer_unpin,
    "undo": answer_undo, "redo": answer_redo, "grade": answer_grade, "grades": answer_grades, "double": answer_double,
    "names": answer_names, "triangle": answer_triangle, "barred": answer_barred, "show": answer_show,
    "list": answer_list,
}
