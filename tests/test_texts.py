"""Texts: point [14.2], and what the functions that write and read them return and refuse."""

import itertools
import random
import re
import unittest

from fewnames.base.rounds import Round, all_rounds
from fewnames.base.runs import Run, all_runs, joint_run
from fewnames.errors import FewError, InvalidGroup, InvalidProgram, InvalidRound, InvalidRun, ParseError
from fewnames.make.makers import rank_program, shrinking_program
from fewnames.programs.programs import Program, program_by
from fewnames.text.texts import (
    read_group, read_program, read_round, read_run, write_group, write_program, write_round, write_run)
from tests.samples import LONGEST, RANKS, TOO_LONG, assert_given, odd_values, some_programs

READERS = (read_round, read_run, read_group, read_program)
NUMBER = r"(?:0|[1-9][0-9]*)"
ROW = rf"{NUMBER}(?: {NUMBER})*"
ROUND = rf"{ROW}(?:\|{ROW})*"
LONG = "1" * 1990
NO_NUMBERS = ("", " ", "-1", "+1", "01", "00", "1 ", " 1", "1  2", "a", "1a", "1,2", "1.", "1\n", "\n", "x" * 2000, "\u0661", "\u00b2", "1_0", "0x1")


def groups():
    yield from itertools.combinations((1, 2, 9, 10, 98, 99), 0)
    for count in range(1, 5):
        yield from itertools.combinations((1, 2, 9, 10, 98, 99), count)
    yield tuple(range(1, 100))


def values():
    """Pairs of a function that writes, one that reads, and a value."""
    for given in [one for size in (1, 2, 3, 4) for one in all_rounds((0, 3, 10, LONGEST)[:size])]:
        yield write_round, read_round, given
    for run in [one for size, length in ((1, 6), (2, 0), (2, 2), (3, 1), (3, 2)) for one in all_runs((0, 3, 10 ** 9)[:size], length)]:
        yield write_run, read_run, run
    for group in groups():
        yield write_group, read_group, group
    for program in some_programs():
        yield write_program, read_program, program


def form_of(read, text):
    """The index of the first piece that has not its form, by patterns, or None if all have it."""
    if read == read_round:
        fits = [re.fullmatch(ROW, piece) for piece in text.split("|")]
    elif read == read_run and text.startswith("none "):
        fits = [re.fullmatch(f"none {ROW}", text)]
    elif read == read_run:
        fits = [re.fullmatch(ROUND, piece) for piece in text.split(", ")]
    elif read == read_group:
        fits = [text == "-" or re.fullmatch(NUMBER, piece) for piece in text.split(" ")]
    elif ": " not in text:
        return 0
    else:
        head, names = text.split(": ", 1)
        fits = [re.fullmatch(f"{NUMBER} {NUMBER}", head)] + [re.fullmatch(NUMBER, piece) for piece in names.split(" ")]
    wrong = [at for at, fit in enumerate(fits) if not fit]
    return wrong[0] if wrong else None


def near_texts(text, pick, many):
    """Texts that differ from this one in a piece or two."""
    for _ in range(many):
        near = text
        for _ in range(pick.randrange(1, 3)):
            at = pick.randrange(len(near) + 1)
            put = pick.choice(("", " ", "|", ", ", ",", "0", "1", "2", "9", "-", ":", ": ", "none ", "a", "\n", "  "))
            near = near[:at] + put + near[at + pick.randrange(2):]
        yield near


class WriteTest(unittest.TestCase):
    def test_by_hand(self):
        self.assertEqual(write_round(Round(((0, 2), (1,)))), "0 2|1")
        self.assertEqual(write_round(Round(((LONGEST,),))), "9" * 60)
        self.assertEqual(write_run(Run((0, 1, 2), (Round(((0, 2), (1,))), Round(((1,), (0,), (2,)))))), "0 2|1, 1|0|2")
        self.assertEqual([write_run(Run((4, 7), ())), write_run(Run((0,), ())), write_run(joint_run((5,), 2))], ["none 4 7", "none 0", "5, 5"])
        self.assertEqual([write_group(()), write_group((3,)), write_group((1, 20, 99))], ["-", "3", "1 20 99"])
        self.assertEqual([write_program(RANKS), write_program(rank_program(1))], ["2 1: 1 2 3", "1 1: 1"])
        self.assertEqual(write_program(program_by(5, 0, lambda one: 99)), "5 0: 99")
        self.assertEqual(write_program(rank_program(3)), "3 1: 1 2 4 3 5 6")

    def test_names_stand_in_the_order_of_the_patterns(self):
        for program in some_programs():
            head, names = write_program(program).split(": ")
            self.assertEqual(head, f"{program.size} {program.length}")
            self.assertEqual([int(name) for name in names.split(" ")], [program.names[one] for one in sorted(program.names)])

    def test_errors(self):
        for value in odd_values() + [0]:
            if not isinstance(value, Round):
                self.assertRaises(InvalidRound, write_round, value)
            if not isinstance(value, Run):
                self.assertRaises(InvalidRun, write_run, value)
            if not isinstance(value, Program):
                self.assertRaises(InvalidProgram, write_program, value)
            if value != ():
                self.assertRaises(InvalidGroup, write_group, value)
        for group in ((0,), (100,), (2, 1), (1, 1), [1], (True,), ("1",), "-"):
            self.assertRaises(InvalidGroup, write_group, group)


class ReadTest(unittest.TestCase):
    def test_written_and_read_back(self):
        for write, read, value in values():
            self.assertEqual(read(write(value)), value)
        for program in (shrinking_program(3).lengthened(), program_by(4, 2, lambda one: 99), program_by(2, 6, lambda one: one[0] + 1)):
            self.assertEqual(read_program(write_program(program)), program)

    def test_texts_near_one_are_read_exactly_if_they_are_the_text_of_a_value(self):
        pick = random.Random(142)
        for write, read, value in values():
            text = write(value)
            for near in near_texts(text, pick, 30 if len(text) < 60 else 3):
                at = form_of(read, near)
                try:
                    found = read(near)
                except ParseError as error:
                    self.assertEqual(error.at, at, near)
                else:
                    self.assertEqual([write(found), at], [near, None])

    def test_rounds(self):
        for text, at in (
                ("", 0), ("|", 0), ("0|", 1), ("|0", 0), ("0||1", 1), ("0| 1", 1), ("0 |1", 0), ("0|1 ", 1), ("0 1|01", 1), ("0|1|a", 2),
                ("0,1", 0), ("0|1, 1|0", 1), ("none 1", 0), ("0  1", 0), ("-1", 0), ("1\n", 0), ("0|1\n", 1), (LONG + "|a", 1),
                ("1 0", None), ("0|0", None), ("0 0", None), ("0 1|1", None), ("0 1 2 3 4 5", None), ("0|1|2|3|4|5", None), ("9" * 61, None),
                (LONG, None), ("0|" + LONG, None), ("1 0|" + LONG, None)):
            assert_given(self, ParseError, "at", at, read_round, text)

    def test_runs(self):
        for text, at in (
                ("", 0), ("none", 0), ("none ", 0), ("none a", 0), ("none  1", 0), ("none 1 ", 0), ("none 1|2", 0), ("none 1, 2", 0),
                ("none none 1", 0), ("None 1", 0), (" none 1", 0), ("0|1,", 0), ("0|1, ", 1), (", 0|1", 0), ("0|1,1|0", 0), ("0|1,  1|0", 1),
                ("0|1, 1|0 , 0|1", 1), ("0|1, 1||0", 1), ("0|1, none 0 1", 1), ("0, 0, 0, a", 3), (LONG + ", a", 1), ("1 0, 0|0, a", 2),
                ("none 1 0", None), ("none 1 1", None), ("none 0 1 2 3 4 5", None), ("none " + "9" * 61, None), ("none " + LONG, None),
                ("0|1, 0", None), ("0|1, 1|0|2", None), ("0|1, 0|2", None), ("0|1, 1 0", None), ("0|0, 0", None), (LONG, None),
                ("0, 0, 0, 0, 0, 0, 0", None), ("0 1 2 3 4 5, 0", None)):
            assert_given(self, ParseError, "at", at, read_run, text)
        self.assertEqual(read_run("0, 0, 0, 0, 0, 0"), joint_run((0,), 6))
        self.assertEqual(read_run("none 0 5"), Run((0, 5), ()))

    def test_groups(self):
        for text, at in (
                ("", 0), (" ", 0), ("- ", 0), (" -", 0), ("--", 0), ("1 -", 1), ("- 1", 0), ("1  2", 1), ("1 ", 1), (" 1", 0), ("1 02", 1),
                ("1,2", 0), ("1 2 3 x", 3), ("3 2 1 x", 3), ("none", 0), (LONG + " x", 1), ("1\n", 0),
                ("0", None), ("100", None), ("2 1", None), ("1 1", None), ("1 2 100", None), (LONG, None), ("0 1", None)):
            assert_given(self, ParseError, "at", at, read_group, text)
        self.assertEqual([read_group("-"), read_group("99"), read_group("1 2")], [(), (99,), (1, 2)])

    def test_programs(self):
        for text, at in (
                ("", 0), ("2 1", 0), ("2 1:", 0), ("2 1:1 2 3", 0), (": ", 0), (": 1", 0), ("2: 1", 0), ("2 1 1: 1", 0), ("2  1: 1", 0),
                (" 2 1: 1 2 3", 0), ("2 1 : 1 2 3", 0), ("02 1: 1", 0), ("2 01: 1", 0), ("a 1: 1", 0), ("2 -1: 1", 0), ("a 1: b", 0),
                ("2 1: ", 1), ("2 1:  1 2 3", 1), ("2 1: 1  2 3", 2), ("2 1: 1 2 3 ", 4), ("2 1: 1 2 03", 3), ("2 1: 1 2 3: 4", 3),
                ("2 1: a", 1), ("9 9: 1 b", 2), ("2 1: 1 2 3, 4", 3), ("2 1: : ", 1), (LONG + " 1: x", 1), ("2 1: 1 2 3\n", 3),
                ("2 1: 1 2", None), ("2 1: 1 2 3 4", None), ("2 1: 1 2 0", None), ("2 1: 1 2 100", None), ("0 1: 1", None), ("6 1: 1", None),
                ("1 7: 1", None), ("3 4: 1", None), ("5 2: 1", None), ("5 6: 1", None), ("1 0: " + LONG, None), (LONG + " 1: 1", None),
                ("1 " + LONG + ": 1", None), ("1 6: 1 1", None)):
            assert_given(self, ParseError, "at", at, read_program, text)
        self.assertEqual(read_program("1 6: 99"), program_by(1, 6, lambda one: 99))

    def test_pieces_that_are_no_numbers(self):
        for piece in NO_NUMBERS:
            for read, text, at in (
                    (read_round, f"0|{piece}|1", 1), (read_run, f"0|1, {piece}", 1), (read_run, f"none {piece}", 0),
                    (read_program, f"2 1: 1 2 {piece}", None), (read_group, f"1 {piece}", None)):
                with self.assertRaises(ParseError) as caught:
                    read(text)
                self.assertEqual(caught.exception.at, form_of(read, text) if at is None else at)

    def test_no_strings(self):
        for value in odd_values() + [0, b"0|1"]:
            for read in READERS:
                if not isinstance(value, str):
                    assert_given(self, ParseError, "at", None, read, value)

    def test_all_short_texts(self):
        writers = {read_round: write_round, read_run: write_run, read_group: write_group, read_program: write_program}
        right = {read: set() for read in READERS}
        for read, write in writers.items():
            for signs in itertools.chain(*[itertools.product("01|, :-", repeat=count) for count in range(6)]):
                text = "".join(signs)
                try:
                    found = read(text)
                except ParseError as error:
                    self.assertEqual(error.at, form_of(read, text), text)
                else:
                    self.assertEqual(write(found), text)
                    right[read].add(text)
        self.assertTrue({"0|1", "1|0", "0 1", "0", "11|0"} <= right[read_round])
        self.assertTrue({"0|1", "0, 0"} <= right[read_run])
        self.assertEqual(right[read_group], {"-", "1", "10", "11", "1 10", "1 11", "10 11"})
        # The shortest text of a program has six signs.
        self.assertEqual([right[read_program], write_program(read_program("1 0: 1"))], [set(), "1 0: 1"])

    def test_parse_errors_are_those_of_the_package(self):
        self.assertTrue(issubclass(ParseError, FewError))
        self.assertRaises(ParseError, read_round, str(TOO_LONG))


if __name__ == "__main__":
    unittest.main()
