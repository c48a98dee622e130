"""The shell: points [14.3] and [14.4]."""

import random
import unittest

from fewnames.counts.binomials import is_barred
from fewnames.counts.marks import triangle_of
from fewnames.desk.desk import Desk
from fewnames.errors import (
    InvalidNumber, InvalidOperation, InvalidProgram, InvalidRun, NothingToUndo, Refused, TooMany, UnknownName)
from fewnames.make.makers import rank_program, shrinking_program
from fewnames.programs.checks import is_double, is_good
from fewnames.programs.programs import Program
from fewnames.text.shell import Shell
from fewnames.text.texts import read_run, write_group, write_program, write_run
from tests.samples import LONGEST, RANKS, odd_values, some_programs, some_runs

SETUP = ("rank r 2", "enter two 2 1: 1 2 2", "shrink s 3", "pin within r 3")
RIGHT = (
    "enter a 2 1: 1 2 3", "rank a 3", "shrink a 2", "remove two", "lengthen r", "narrow s 2", "pin good s", "pin within s 5",
    "pin choice two", "pin below r f", "unpin within r 3", "undo", "undo 1", "undo 0", "redo 0", "grade r", "grades", "double two",
    "names r 8|5", "names z none 4 7", "triangle r -", "triangle r 2 3", "barred 6 8", "show r", "list")
WRONG = (
    "", " ", "enter", "enter a", "enter a ", "enter 2 1: 1 2 3", "enter a 2 1", "enter a 2 1: 1 2", "enter A 2 1: 1 2 3",
    "enter a 2 1: 1 2 100", "enter a 2 1: 1 2 3 4", "enter abcdefghi 2 1: 1 2 3", "enter a 9 9: 1", "enter a 3 4: 1", "rank", "rank a",
    "rank a b", "rank a 2 2", "rank 2 a", "rank a 02", "rank a -2", "rank a +2", "rank a 2.", "rank a " + "9" * 61, "rank A 2", "shrink a",
    "shrink 2", "shrink a x", "remove", "remove A", "remove r r", "remove 1", "lengthen", "lengthen r 1", "narrow r", "narrow r x",
    "narrow 2 r", "pin", "pin good", "pin good A", "pin good r r", "pin good r 3", "pin within r", "pin within r 0", "pin within r 100",
    "pin within r " + "9" * 60, "pin within r x", "pin within r 03", "pin within 3 r", "pin choice", "pin choice r 1", "pin below r",
    "pin below r 3", "pin below r two s", "pin best r", "pin Good r", "pin none", "unpin", "unpin good", "unpin within r 0",
    "unpin within nobody 100", "unpin all", "unpin below r", "undo x", "undo -1", "undo 1 1", "undo 01", "undo " + "1" * 61, "redo x", "redo ",
    "redo 1 1", "grade", "grade R", "grade r s", "grade 1", "grades r", "grades 1", "double", "double R", "double r 1", "names", "names r",
    "names r ", "names r none", "names r 8|", "names r 1 0", "names r 8|5,", "names r 8|5, 8", "names r 0 1 2 3 4 5", "names R 8|5",
    "names nobody 8||5", "names r 0, 0, 0, 0, 0, 0, 0", "triangle", "triangle r", "triangle r ", "triangle r 0", "triangle r 100",
    "triangle r 3 2", "triangle r x", "triangle r - 1", "triangle nobody 2 2", "barred", "barred 6", "barred 6 8 1", "barred a b",
    "barred 6 08", "barred -6 8", "barred " + "1" * 61 + " 8", "show", "show R", "show r r", "list r", "list 1", "Grade r", "GRADES",
    "grad r", "exit", "help", "trial", "twin", "give r 0 1", "rank: r 2", "enter a 2  1: 1 2 3", "rank  r 2", "rank r  2", " rank r 2",
    "rank r 2 ", "grades ", " grades", "list\n", "rank\tr 2", "rank r 2\n", "undo  1", "pin  good r", "pin good  r", "names r 8|5 ",
    "names r  8|5", "triangle r 2  3", "barred 6  8", "x" * 2000)


def shell_with(*commands):
    shell = Shell()
    for command in commands:
        shell(command)
    return shell


def history(shell):
    """What the desk of a shell and all its changes tell."""
    desk = shell.desk()
    rows = [(desk.programs, desk.pins)]
    for step in (desk.undo, desk.redo):
        while True:
            try:
                rows.append((step(), desk.programs, desk.pins))
            except NothingToUndo:
                break
    return rows


def plain_news(news):
    return ", ".join(" ".join("-" if one is None else str(one) for one in row) for row in news) or "none"


class CommandTest(unittest.TestCase):
    def test_at_first(self):
        shell = Shell()
        self.assertEqual([len(shell), str(shell), shell.desk()], [0, "shell of 0 commands", Desk()])
        self.assertEqual([shell("list"), shell("grades"), len(shell)], ["none", "none", 2])

    def test_all_commands_by_hand(self):
        shell = Shell()
        for command, answer in (
                ("enter a 2 1: 1 2 2", "a - double"), ("enter b 2 1: 3 1 2", "b - 3"), ("rank r 3", "r - 6"), ("shrink s 3", "s - 5"),
                ("rank r 3", "none"), ("grades", "a:double b:3 r:6 s:5"), ("list", "a b r s"), ("grade a", "double"), ("grade s", "5"),
                ("pin good b", "none"), ("pin within s 5", "none"), ("pin choice a", "none"), ("pin below s r", "none"),
                ("remove a", "no"), ("enter b 2 1: 1 1 1", "refused good b"), ("narrow r 2", "refused below s r"),
                ("shrink r 3", "refused below s r"), ("rank s 3", "refused within s 5"), ("rank a 2", "refused choice a"),
                ("enter a 2 1: 1 1 1", "none"), ("unpin below s r", "none"), ("narrow r 2", "r 6 3"), ("lengthen r", "none"),
                ("show r", "2 2: 1 2 1 2 2 3 3 1 3"), ("show b", "2 1: 3 1 2"), ("undo", "none"), ("undo 2", "r 3 6"), ("redo", "none"),
                ("redo 1", "r 6 3"), ("redo", "none"), ("redo", "nothing 1"), ("undo 0", "none"), ("names b 7|4", "1 3"), ("names b 4", "3"), ("names b 4 7", "1 2"),
                ("names s none 4", "no"), ("names s 2|0 1, 0 1 2", "3 2 1"), ("double b", "none"), ("triangle b -", "1 0 0"),
                ("triangle b 1 2", "0 1 -1"), ("triangle s 5", "1 0 0 0"), ("barred 4 6", "yes"), ("barred 4 7", "no"),
                ("barred 60 200", "no"), ("barred 61 5", "no"), ("remove s", "no"), ("unpin within s 5", "none"), ("remove s", "s 5 -"),
                ("undo", "s - 5"), ("undo 99", "nothing 99"), ("list", "a b r s")):
            self.assertEqual(shell(command), answer, command)

    def test_news_of_many_names(self):
        shell = shell_with("rank b 2", "enter a 2 1: 1 1 1", "shrink c 3")
        self.assertEqual(shell("undo 3"), "a double -, b 3 -, c 5 -")
        self.assertEqual(shell("redo 2"), "a - double, b - 3")
        self.assertEqual(shell("redo 5"), "nothing 5")

    def test_texts_of_values(self):
        for program in some_programs():
            shell = Shell()
            grade = program.greatest if is_good(program) else "double"
            self.assertEqual(shell("enter p " + write_program(program)), f"p - {grade}")
            self.assertEqual(shell.desk()["p"], program)
            self.assertEqual([shell("show p"), shell("grade p")], [write_program(program), str(grade)])
            found = shell("double p")
            if grade == "double":
                run = read_run(found)
                names = program.names_in(run)
                self.assertTrue(any(
                    is_double(program, (run, one, other)) for one in names for other in names))
            else:
                self.assertEqual(found, "none")
            for group in ((), program.told[:1], program.told[1:], (99,)):
                self.assertEqual(shell("triangle p " + write_group(group)), " ".join(map(str, triangle_of(program, group)[-1])))
            for run in some_runs((0, 7, LONGEST)[:program.size], program.length, 3 ** program.length * 4):
                self.assertEqual(shell("names p " + write_run(run)), " ".join(map(str, program.names_in(run).values())))
        shell = shell_with("enter n 3 0: 4")
        self.assertEqual([shell("names n none 4 7"), shell("double n"), shell("names n 4|7")], ["4 4", "none 0 1 2", "no"])

    def test_barred(self):
        shell = Shell()
        for size in (1, 2, 5, 6, 7, 12, 60):
            for names in (1, size, 2 * size - 2 or 1, 2 * size - 1, 200):
                self.assertEqual(shell(f"barred {size} {names}"), "yes" if is_barred(size, names) else "no")
        many = len(shell)
        for size, names in ((0, 5), (61, 5), (5, 0), (5, 201), (LONGEST, 1), (1, LONGEST)):
            self.assertEqual(shell(f"barred {size} {names}"), "no")
        self.assertEqual(len(shell), many)


class WhatTest(unittest.TestCase):
    def test_no_commands(self):
        shell = shell_with(*SETUP)
        before = history(shell)
        for command in WRONG:
            with self.subTest(command):
                self.assertEqual(shell(command), "what")
        for command in [one for one in odd_values() if not isinstance(one, str)] + [0, b"list", ["list"], ("list",)]:
            self.assertEqual(shell(command), "what")
        self.assertEqual([history(shell), len(shell)], [before, 4])

    def test_no_strings_that_are_passed_elsewhere(self):
        for command in odd_values():
            self.assertEqual(Shell()(command), "what")

    def test_blanks_too_many(self):
        for command in RIGHT:
            shell = shell_with(*SETUP, "enter f 2 1: 1 2 9", "enter z 2 0: 1", "undo 0")
            for at, sign in enumerate(command + " "):
                if sign == " ":
                    self.assertEqual(shell(command[:at] + " " + command[at:]), "what", command)
            self.assertEqual(shell(" " + command), "what")
            self.assertNotIn(shell(command), ("what", "no"))

    def test_what_comes_ahead_of_all_others(self):
        shell = shell_with(*SETUP)
        for command in ("names nobody 8||5", "triangle nobody 3 2", "narrow nobody x", "pin within nobody 0", "undo 9 9", "rank nobody x"):
            self.assertEqual(shell(command), "what")


class ErrorTest(unittest.TestCase):
    def test_unknown_names(self):
        shell = shell_with(*SETUP)
        before = history(shell)
        for command in ("remove", "lengthen", "grade", "double", "show"):
            self.assertEqual(shell(command + " nobody"), "unknown nobody")
        for command in ("narrow nobody 9", "names nobody 8|5, 5 8", "triangle nobody 99"):
            self.assertEqual(shell(command), "unknown nobody")
        self.assertEqual([history(shell), len(shell)], [before, 4])

    def test_pins_that_are_none_here(self):
        shell = shell_with(*SETUP)
        before = history(shell)
        for command in (
                "pin good nobody", "pin within r 3", "pin below r r", "pin below r nobody", "unpin good r", "unpin within r 4",
                "unpin choice nobody", "unpin below two two"):
            self.assertEqual(shell(command), "no")
        self.assertEqual([history(shell), len(shell)], [before, 4])

    def test_refused(self):
        shell = shell_with("rank r 2", "enter two 2 1: 1 2 2", "rank q 2")
        for pin in ("good two", "within two 99", "within r 2", "choice r", "below r two", "below two r", "below q r"):
            self.assertEqual(shell("pin " + pin), "refused " + pin)
        self.assertEqual([shell("pin within r 3"), shell("pin good q")], ["none", "none"])
        self.assertEqual([shell("rank r 3"), shell("enter q 1 0: 1"), shell("enter q 2 0: 1")], ["refused within r 3", "q 3 1", "refused good q"])

    def test_many(self):
        shell = shell_with("enter six 1 6: 1", "shrink s 3", "rank five 5")
        self.assertEqual([shell("lengthen six"), shell("lengthen five"), shell("lengthen s"), shell("lengthen s")], [
            "many 6", "many 1200", "none", "many 1200"])
        for name in "abcde":
            self.assertEqual(shell(f"rank {name} 2"), f"{name} - 3")
        for command in ("rank z 2", "shrink z 1", "enter z 2 1: 1 2 3"):
            self.assertEqual(shell(command), "many 8")
        for number in range(3, 11):
            self.assertEqual(shell(f"pin within a {number}"), "none")
        self.assertEqual([shell("pin good a"), shell("pin good nobody"), shell("pin within a 3")], ["many 8", "no", "no"])

    def test_nothing(self):
        shell = Shell()
        self.assertEqual([shell("undo"), shell("redo"), shell("undo 7"), shell("undo " + "9" * 60)], [
            "nothing 1", "nothing 1", "nothing 7", "nothing " + "9" * 60])
        self.assertEqual([shell("undo 0"), shell("redo 0"), len(shell)], ["none", "none", 2])

    def test_no(self):
        shell = shell_with(*SETUP)
        before = history(shell)
        for command in (
                "rank a 0", "rank a 6", "rank a " + "9" * 60, "shrink a 0", "shrink a 4", "narrow r 0", "narrow r 3", "remove r",
                "names r 1 2 3", "names r none 1", "names r 1, 1", "barred 0 0"):
            self.assertEqual(shell(command), "no", command)
        self.assertEqual([history(shell), len(shell)], [before, 4])


class ShellTest(unittest.TestCase):
    def test_the_desk_is_a_twin(self):
        shell = shell_with(*SETUP)
        desk = shell.desk()
        self.assertEqual([list(desk), desk.pins, desk["r"]], [["r", "s", "two"], (("within", "r", 3),), RANKS])
        desk.remove("s")
        self.assertEqual([shell("list"), list(shell.desk())], ["r s two", ["r", "s", "two"]])
        other = shell.desk()
        self.assertEqual([other.undo(many=4), shell("undo 2"), other.redo(many=4)], [
            (("r", 3, None), ("s", 5, None), ("two", "double", None)), "s 5 -", (("r", None, 3), ("s", None, 5), ("two", None, "double"))])

    def test_how_many_commands(self):
        shell = Shell()
        answered = 0
        for command in SETUP + WRONG[:20] + RIGHT + ("grade nobody", "undo 99", "remove r", "rank r 3", "barred 0 1"):
            answer = shell(command)
            answered += answer.split(" ")[0] not in ("what", "unknown", "refused", "many", "nothing") and (
                answer != "no" or command == "barred 6 8")
            self.assertEqual([len(shell), str(shell)], [answered, f"shell of {answered} commands"])

    def test_shells_are_apart(self):
        one, other = Shell(), Shell()
        one("rank r 2")
        self.assertEqual([one("list"), other("list")], ["r", "none"])

    def test_no_iteration(self):
        self.assertRaises(TypeError, iter, Shell())

    def test_scripts_against_a_desk(self):
        pick = random.Random(31)
        for _ in range(30):
            shell, desk = Shell(), Desk()
            for _ in range(40):
                command, call = some_command(pick, desk)
                self.assertEqual(shell(command), answer_of(call), command)
                self.assertEqual(history(shell), history_of(desk))

    def test_scripts_in_another_order(self):
        pick = random.Random(41)
        script = ["rank a 2", "rank b 3", "shrink c 3", "enter d 2 1: 1 2 2", "enter e 3 0: 1"]
        whole = shell_with(*script)
        for _ in range(10):
            pick.shuffle(script)
            other = shell_with(*script)
            self.assertEqual([other.desk(), other("grades"), len(other)], [whole.desk(), "a:3 b:6 c:5 d:double e:double", 6])


def history_of(desk):
    class Held:
        def desk(self):
            return desk.twin()
    return history(Held())


def some_command(pick, desk):
    """A command at random, and what it does to a desk."""
    name, other = pick.choice(("a", "b", "c")), pick.choice(("a", "b", "c"))
    size = pick.randrange(1, 5)
    pins = {"good": ("good", name), "within": ("within", name, 2 * size), "choice": ("choice", name), "below": ("below", name, other)}
    pin = pins[pick.choice(sorted(pins))]
    written = " ".join(str(one) for one in pin)
    double = Program(2, 1, dict(zip(RANKS.names, (1, 2, 2))))
    return pick.choice((
        (f"rank {name} {size}", lambda: desk.enter(name, rank_program(size))),
        (f"shrink {name} {size}", lambda: desk.enter(name, shrinking_program(size))),
        (f"enter {name} 2 1: 1 2 2", lambda: desk.enter(name, double)),
        (f"remove {name}", lambda: desk.remove(name)),
        (f"lengthen {name}", lambda: desk.lengthen(name)),
        (f"narrow {name} {size}", lambda: desk.narrow(name, size)),
        (f"pin {written}", lambda: desk.pin(pin)),
        (f"pin {written}", lambda: desk.pin(pin)),
        (f"unpin {written}", lambda: desk.unpin(pin)),
        ("undo", lambda: desk.undo()),
        (f"undo {size}", lambda: desk.undo(many=size)),
        (f"redo {size - 1}", lambda: desk.redo(many=size - 1)),
        ("redo", lambda: desk.redo())))


def answer_of(call):
    """What the shell answers to a change of its desk."""
    try:
        return plain_news(call())
    except UnknownName as error:
        return f"unknown {error.wanted}"
    except Refused as error:
        return "refused " + " ".join(str(one) for one in error.claim)
    except TooMany as error:
        return f"many {error.limit}"
    except NothingToUndo as error:
        return f"nothing {error.many}"
    except (InvalidOperation, InvalidNumber, InvalidRun, InvalidProgram):
        return "no"


if __name__ == "__main__":
    unittest.main()
