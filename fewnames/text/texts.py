"""Texts of rounds, runs, groups and programs, and how they are read back."""

from fewnames.errors import (
    InvalidGroup, InvalidNumber, InvalidProgram, InvalidRound, InvalidRun, InvalidThreads, ParseError, TooMany)
from fewnames.base.rounds import Round
from fewnames.base.runs import Run, check_run
from fewnames.base.values import TOO_LONG
from fewnames.counts.marks import check_group
from fewnames.programs.programs import Program, check_program
from fewnames.views.views import all_patterns, pattern_count

DIGITS = "0123456789"

# Integers have at most so many digits.
MANY_DIGITS = 60

NO_NAME = "-"
NO_ROUND = "none "


def write_round(given):
    """The text of a round."""
    if not isinstance(given, Round):
        raise InvalidRound("a round is made by Round")
    return str(given)


def write_run(run):
    """The text of a run."""
    check_run(run)
    if len(run) == 0:
        return NO_ROUND + joined(run.threads)
    return ", ".join([str(given) for given in run.rounds])


def write_group(group):
    """The text of a group."""
    check_group(group)
    return joined(group) if group else NO_NAME


def write_program(program):
    """The text of a program."""
    check_program(program)
    return f"{program.size} {program.length}: {joined(list(program.names.values()))}"


def read_round(text):
    """The round that has this text."""
    check_text(text)
    check_forms([is_row_of_numbers(piece) for piece in text.split("|")])
    return round_of(text)


def read_run(text):
    """The run that has this text."""
    check_text(text)
    if text.startswith(NO_ROUND):
        rest = text[len(NO_ROUND):]
        check_forms([is_row_of_numbers(rest)])
        return run_of(numbers_in(rest), ())
    pieces = text.split(", ")
    check_forms([is_form_of_round(piece) for piece in pieces])
    rounds = tuple([round_of(piece) for piece in pieces])
    return run_of(rounds[0].threads, rounds)


def read_group(text):
    """The group that has this text."""
    check_text(text)
    if text == NO_NAME:
        return ()
    check_forms([is_number(piece) for piece in text.split(" ")])
    group = numbers_in(text)
    try:
        check_group(group)
    except InvalidGroup:
        raise ParseError(None) from None
    return group


def read_program(text):
    """The program that has this text."""
    check_text(text)
    head, colon, rest = text.partition(": ")
    pieces = rest.split(" ")
    has_head = colon != "" and is_row_of_numbers(head) and len(head.split(" ")) == 2
    check_forms([has_head] + [is_number(piece) for piece in pieces])
    size, length = numbers_in(head)
    return program_of(size, length, numbers_in(rest))


def is_number(text):
    """Whether the text is a number of whatever length, without leading zeros."""
    if not text or not all([sign in DIGITS for sign in text]):
        return False
    return text == "0" or text[0] != "0"


def is_row_of_numbers(text):
    """Whether the text is one or more numbers with single blanks between them."""
    return all([is_number(piece) for piece in text.split(" ")])


def is_form_of_round(text):
    """Whether the text has rows of numbers between its strokes."""
    return all([is_row_of_numbers(piece) for piece in text.split("|")])


def check_text(text):
    """Refuses a value that is no string."""
    if not isinstance(text, str):
        raise ParseError(None)


def check_forms(forms):
    """Refuses a text of which a piece has not its form, by what is told of each piece."""
    for at, form in enumerate(forms):
        if not form:
            raise ParseError(at)


def number_of(word):
    """The integer that is written so, or one that is just as well too long for any value."""
    return int(word) if len(word) <= MANY_DIGITS else TOO_LONG


def numbers_in(text):
    """The integers of a row of numbers."""
    return tuple([number_of(word) for word in text.split(" ")])


def round_of(text):
    """The round that has this text, which has the form of one."""
    try:
        return Round(tuple([numbers_in(piece) for piece in text.split("|")]))
    except InvalidRound:
        raise ParseError(None) from None


def run_of(threads, rounds):
    """The run of these threads with these rounds, which are read."""
    try:
        return Run(threads, rounds)
    except (InvalidThreads, InvalidRun):
        raise ParseError(None) from None


def program_of(size, length, names):
    """The program of this size and length with these new names, which are read."""
    try:
        if pattern_count(size, length) != len(names):
            raise ParseError(None)
        return Program(size, length, dict(zip(all_patterns(size, length), names)))
    except (InvalidNumber, TooMany, InvalidProgram):
        raise ParseError(None) from None


def joined(parts):
    """The parts with blanks between them."""
    return " ".join([str(part) for part in parts])
