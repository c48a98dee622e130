"""Desks: point [14.1], and what their methods return and refuse."""

import random
import unittest

from fewnames.desk.desk import MAX_PINS, MAX_PROGRAMS, Desk
from fewnames.errors import (
    InvalidName, InvalidNumber, InvalidOperation, InvalidProgram, InvalidView, NothingToUndo, Refused, TooMany,
    UnknownName)
from fewnames.make.makers import rank_program, shrinking_program
from fewnames.programs.checks import is_good
from fewnames.programs.programs import Program, program_by
from fewnames.tasks.choices import greatest_choice, is_choice, least_choice
from tests.samples import LONGEST, RANKS, TOO_LONG, assert_given, mixed, odd_values

TWO = RANKS.mapped({1: 1, 2: 2, 3: 2})
ALONE = (0, (((0, (0,)),),))
LOW = (0, (((0, (0, 1)),),))
HIGH = (1, (((1, (0, 1)),),))
NO_NAMES = odd_values() + [0, "A", "ab1", "a b", "abcdefghi", "a\n", " a", "a ", "-", "\u00e9", "\u00aa", ("a",)]
NO_PROGRAMS = [one for one in odd_values() if not isinstance(one, Program)] + [0, RANKS.names]
NO_PINS = odd_values() + [
    "good", ("good",), ("good", "a", "b"), ["good", "a"], ("Good", "a"), ("good", ["a"]), ("good", "A"), ("good", 1), ("", "a"),
    ("within", "a"), ("within", "a", 0), ("within", "a", 100), ("within", "a", True), ("within", "a", "3"), ("within", "a", None),
    ("within", "a", 3, 3), ("within", 3, "a"), ("within", "a", LONGEST), ("choice",), ("choice", "a", 1), ("below", "a"),
    ("below", "a", "a"), ("below", "a", "b", "c"), ("below", "a", 1), ("below", ("a",), "b"), ("undo", "a"), (["good"], "a"),
    ("good", "zz"), ("within", "zz", 3), ("choice", "zz"), ("below", "a", "zz"), ("below", "zz", "a"), ("below", "zz", "zz")]


def desk_with(**programs):
    desk = Desk()
    for name, program in programs.items():
        desk.enter(name, program)
    return desk


def shown(desk):
    """All that a desk tells of itself."""
    return (list(desk.programs.items()), list(desk.grades.items()), desk.pins, list(desk), len(desk), str(desk))


def history(desk):
    """What a desk tells if all its changes are taken back one by one, and made again."""
    twin = desk.twin()
    rows = [shown(twin)]
    for step in (twin.undo, twin.redo):
        while True:
            try:
                news = step()
            except NothingToUndo:
                break
            rows.append((news, shown(twin)))
    return rows


def plain_grade(program):
    return program.greatest if is_good(program) else "double"


def plain_holds(pin, programs):
    """Whether a pin holds, by the words of the document."""
    named = programs[pin[1]]
    if pin[0] == "choice":
        return is_choice(named)
    if not is_good(named):
        return False
    if pin[0] == "within":
        return named.greatest <= pin[2]
    if pin[0] == "below":
        other = programs[pin[2]]
        return is_good(other) and other.size == named.size and named.greatest < other.greatest
    return True


class PlainDesk:
    """A desk that keeps all its earlier states, and goes through all pins behind each change."""

    def __init__(self):
        self.states = [({}, ())]
        self.at = 0

    def now(self):
        return self.states[self.at]

    def grades(self):
        return {name: plain_grade(program) for name, program in sorted(self.now()[0].items())}

    def put(self, programs, pins):
        """What a change answers: news, or the class of its error with what it keeps."""
        if any(name not in programs for pin in pins for name in pin[1:] if isinstance(name, str)):
            return (InvalidOperation,)
        if len(programs) > 8 or len(pins) > 8:
            return (TooMany, 8)
        for pin in pins:
            if not plain_holds(pin, programs):
                return (Refused, pin)
        before = self.grades()
        self.states = self.states[:self.at + 1] + [(programs, pins)]
        self.at += 1
        return self.news(before)

    def news(self, before):
        after = self.grades()
        return tuple(
            (name, before.get(name), after.get(name)) for name in sorted({*before, *after})
            if before.get(name) != after.get(name))

    def do(self, word, *arguments):
        programs, pins = self.now()
        if word == "pin":
            there = all(name in programs for name in arguments[0][1:] if isinstance(name, str))
            return self.put(programs, pins + arguments) if there and arguments[0] not in pins else (InvalidOperation,)
        if word == "unpin":
            left = tuple(pin for pin in pins if pin != arguments[0])
            return self.put(programs, left) if left != pins else (InvalidOperation,)
        if word in ("undo", "redo"):
            return self.step(arguments[0] if word == "redo" else -arguments[0])
        name = arguments[0]
        if word == "enter":
            return self.put({**programs, name: arguments[1]}, pins)
        if name not in programs:
            return (UnknownName, name)
        if word == "remove":
            return self.put({one: programs[one] for one in programs if one != name}, pins)
        try:
            changed = {
                "give": programs[name].with_name, "lengthen": programs[name].lengthened, "narrow": programs[name].for_fewer,
            }[word](*arguments[1:])
        except (InvalidNumber, TooMany, InvalidOperation) as error:
            return (error.__class__, *[kept for kept in vars(error).values()])
        return self.put({**programs, name: changed}, pins)

    def step(self, by):
        if not 0 <= self.at + by < len(self.states):
            return (NothingToUndo, abs(by))
        before = self.grades()
        self.at += by
        return self.news(before)


def done(desk, word, *arguments):
    """What a desk answers to a change: news, or the class of its error with what it keeps."""
    try:
        if word in ("undo", "redo"):
            return getattr(desk, word)(many=arguments[0])
        return getattr(desk, word)(*arguments)
    except (InvalidOperation, InvalidNumber, NothingToUndo, Refused, TooMany, UnknownName) as error:
        return (error.__class__, *[kept for kept in vars(error).values()])


PROGRAMS = [
    RANKS, TWO, rank_program(1), rank_program(3), shrinking_program(3), least_choice(2, 1), greatest_choice(3, 1),
    RANKS.mapped({1: 5, 2: 9, 3: 7}), mixed(2, 2, 30), RANKS.lengthened(), program_by(2, 0, lambda one: 1)]


def some_change(pick, names):
    """A change of a desk at random, which may be refused."""
    name, other = pick.choice(names), pick.choice(names)
    word = pick.choice(("enter", "enter", "remove", "give", "lengthen", "narrow", "pin", "pin", "pin", "unpin", "undo", "redo"))
    if word == "enter":
        return (word, name, pick.choice(PROGRAMS))
    if word == "give":
        return (word, name, pick.choice((ALONE, LOW, HIGH)), pick.randrange(1, 7))
    if word == "narrow":
        return (word, name, pick.randrange(1, 4))
    if word in ("pin", "unpin"):
        pin = pick.choice((("good", name), ("within", name, pick.choice((3, 5, 9))), ("choice", name), ("below", name, other)))
        return (word, pin if len(set(pin)) == len(pin) else ("good", name))
    if word in ("undo", "redo"):
        return (word, pick.choice((0, 1, 1, 1, 2, 5)))
    return (word, name)


class NewDeskTest(unittest.TestCase):
    def test_at_first(self):
        desk = Desk()
        self.assertEqual([desk.programs, desk.grades, desk.pins, list(desk), len(desk)], [{}, {}, (), [], 0])
        self.assertEqual(str(desk), "desk of 0 programs, 0 pins")
        self.assertEqual([MAX_PROGRAMS, MAX_PINS], [8, 8])

    def test_properties_have_no_setter(self):
        for name in ("programs", "grades", "pins"):
            self.assertRaises(AttributeError, setattr, Desk(), name, None)

    def test_what_is_returned_is_not_shared(self):
        desk = desk_with(a=RANKS)
        desk.programs.clear()
        desk.grades["a"] = 1
        self.assertEqual([desk.programs, desk.grades], [{"a": RANKS}, {"a": 3}])
        names = iter(desk)
        desk.enter("b", TWO)
        self.assertEqual([list(names), list(desk)], [["a"], ["a", "b"]])


class ChangesTest(unittest.TestCase):
    def test_by_hand(self):
        desk = Desk()
        self.assertEqual(desk.enter("ranks", RANKS), (("ranks", None, 3),))
        self.assertEqual(desk.enter("two", TWO), (("two", None, "double"),))
        self.assertEqual(str(desk), "desk of 2 programs, 0 pins")
        self.assertEqual(desk.grades, {"ranks": 3, "two": "double"})
        assert_given(self, Refused, "claim", ("below", "ranks", "two"), desk.pin, ("below", "ranks", "two"))
        self.assertEqual(desk.give("two", (9, (((9, (4, 9)),),)), 7), (("two", "double", 7),))
        self.assertEqual(desk["two"].names, {ALONE: 1, LOW: 2, HIGH: 7})
        self.assertEqual(desk.pin(("below", "ranks", "two")), ())
        self.assertEqual([desk.lengthen("two"), len(desk["two"])], [(), 9])
        with self.assertRaises(Refused) as caught:
            desk.narrow("ranks", 1)
        self.assertEqual(caught.exception.claim, ("below", "ranks", "two"))
        self.assertEqual(desk.enter("ranks", rank_program(2)), ())
        self.assertEqual([desk.unpin(("below", "ranks", "two")), desk.narrow("ranks", 1)], [(), (("ranks", 3, 1),)])
        self.assertEqual([desk.remove("two"), desk.programs], [(("two", 7, None),), {"ranks": rank_program(1)}])
        self.assertEqual(desk.undo(many=3), (("ranks", 1, 3), ("two", None, 7)))
        self.assertEqual(desk.redo(many=2), (("ranks", 3, 1),))

    def test_random_histories(self):
        pick = random.Random(14)
        for names in (("a",), ("a", "b"), ("b", "a", "c", "dd", "zzzzzzzz"), tuple("abcdefghijk")):
            for _ in range(12):
                desk, plain = Desk(), PlainDesk()
                for _ in range(60):
                    change = some_change(pick, names)
                    self.assertEqual(done(desk, *change), plain.do(*change), change)
                    programs, pins = plain.now()
                    self.assertEqual(list(desk.programs.items()), sorted(programs.items(), key=lambda row: row[0]))
                    self.assertEqual([list(desk.grades.items()), desk.pins], [list(plain.grades().items()), pins])
                    self.assertEqual([list(desk), len(desk)], [sorted(programs), len(programs)])
                    self.assertEqual(str(desk), f"desk of {len(programs)} programs, {len(pins)} pins")
                    for pin in pins:
                        self.assertTrue(plain_holds(pin, desk.programs))

    def test_no_name(self):
        desk = desk_with(a=RANKS)
        for name in NO_NAMES:
            for program in (RANKS, None):
                self.assertRaises(InvalidName, desk.enter, name, program)
        for name in ("a", "b", "abcdefgh"):
            for program in NO_PROGRAMS:
                self.assertRaises(InvalidProgram, desk.enter, name, program)
        self.assertEqual(shown(desk), shown(desk_with(a=RANKS)))

    def test_unknown_names(self):
        desk = desk_with(a=RANKS)
        for name in NO_NAMES + ["b", "aa"]:
            for call, arguments in (
                    (desk.remove, ()), (desk.lengthen, ()), (desk.narrow, (None,)), (desk.give, (None, None)), (desk.__getitem__, ())):
                assert_given(self, UnknownName, "wanted", name, call, name, *arguments)
        self.assertEqual(len(history(desk)), 3)

    def test_errors_of_the_methods_of_programs(self):
        desk = desk_with(a=RANKS, six=program_by(1, 6, lambda one: 1), many=mixed(4, 2))
        before = history(desk)
        for view in odd_values() + [0, (0, (((0, (1,)),),))]:
            self.assertRaises(InvalidView, desk.give, "a", view, 200)
        for new_name in [0, 100, -1, LONGEST] + odd_values():
            for view in (LOW, (0, ())):
                assert_given(self, InvalidNumber, "given", new_name, desk.give, "a", view, new_name)
        for view in ((0, ()), (2, (((2, (0, 1, 2)),),))):
            self.assertRaises(InvalidOperation, desk.give, "a", view, 1)
        assert_given(self, TooMany, "limit", 6, desk.lengthen, "six")
        assert_given(self, TooMany, "limit", 1200, desk.lengthen, "many")
        for size in [0, 3, -1, LONGEST] + odd_values():
            assert_given(self, InvalidNumber, "given", size, desk.narrow, "a", size)
        self.assertEqual(history(desk), before)

    def test_nine_programs(self):
        desk = Desk()
        for name in "hgfedcba":
            desk.enter(name, RANKS)
        before = history(desk)
        assert_given(self, TooMany, "limit", 8, desk.enter, "i", RANKS)
        self.assertRaises(InvalidProgram, desk.enter, "i", None)
        self.assertRaises(InvalidName, desk.enter, "I", RANKS)
        self.assertEqual(history(desk), before)
        self.assertEqual(desk.enter("h", TWO), (("h", 3, "double"),))
        self.assertEqual(desk.remove("a"), (("a", 3, None),))
        self.assertEqual(desk.enter("i", RANKS), (("i", None, 3),))
        self.assertEqual(list(desk), list("bcdefghi"))


class PinsTest(unittest.TestCase):
    def test_each_kind(self):
        programs = dict(
            a=RANKS, b=TWO, c=least_choice(2, 1), d=rank_program(3), e=shrinking_program(3), f=RANKS.mapped({1: 1, 2: 2, 3: 4}),
            g=greatest_choice(1, 0), h=rank_program(1))
        desk = desk_with(**programs)
        pins = [("good", name) for name in programs] + [("choice", name) for name in programs]
        pins += [("within", name, number) for name in programs for number in (1, 2, 3, 4, 5, 6, 99)]
        pins += [("below", one, other) for one in programs for other in programs if one != other]
        for pin in pins:
            twin = desk.twin()
            if plain_holds(pin, programs):
                self.assertEqual([twin.pin(pin), twin.pins, twin.grades], [(), (pin,), desk.grades])
                self.assertRaises(InvalidOperation, twin.pin, pin)
                self.assertEqual([twin.unpin(pin), twin.pins], [(), ()])
            else:
                assert_given(self, Refused, "claim", pin, twin.pin, pin)
                self.assertEqual([twin.pins, twin == desk], [(), True])
            self.assertRaises(InvalidOperation, twin.unpin, pin)
        held = [pin for pin in pins if plain_holds(pin, programs)]
        self.assertIn(("below", "a", "f"), held)
        self.assertIn(("below", "e", "d"), held)
        self.assertNotIn(("below", "a", "d"), held)
        self.assertNotIn(("below", "g", "h"), held)
        self.assertNotIn(("below", "b", "f"), held)

    def test_no_pin(self):
        desk = desk_with(a=RANKS, b=RANKS)
        desk.pin(("good", "a"))
        before = history(desk)
        for pin in NO_PINS + [("good", "a")]:
            self.assertRaises(InvalidOperation, desk.pin, pin)
        for pin in NO_PINS + [("good", "b"), ("within", "a", 3)]:
            self.assertRaises(InvalidOperation, desk.unpin, pin)
        self.assertEqual(history(desk), before)

    def test_true_is_not_1(self):
        desk = desk_with(a=rank_program(1))
        desk.pin(("within", "a", 1))
        for call in (desk.pin, desk.unpin):
            self.assertRaises(InvalidOperation, call, ("within", "a", True))
        self.assertEqual(desk.pins, (("within", "a", 1),))
        self.assertEqual(desk.unpin(("within", "a", 1)), ())

    def test_the_order_of_pins(self):
        desk = desk_with(b=RANKS, a=RANKS)
        for pin in (("good", "b"), ("within", "a", 9), ("good", "a"), ("within", "b", 3)):
            desk.pin(pin)
        self.assertEqual(desk.pins, (("good", "b"), ("within", "a", 9), ("good", "a"), ("within", "b", 3)))
        assert_given(self, Refused, "claim", ("good", "b"), desk.enter, "b", TWO)
        assert_given(self, Refused, "claim", ("within", "b", 3), desk.enter, "b", RANKS.mapped({1: 1, 2: 2, 3: 4}))
        assert_given(self, Refused, "claim", ("within", "a", 9), desk.enter, "a", TWO)
        desk.unpin(("within", "a", 9))
        assert_given(self, Refused, "claim", ("good", "a"), desk.enter, "a", TWO)
        self.assertEqual(desk.pins, (("good", "b"), ("good", "a"), ("within", "b", 3)))
        self.assertNotEqual(desk, desk_with(a=RANKS, b=RANKS))

    def test_nine_pins(self):
        desk = desk_with(a=RANKS, b=TWO)
        for number in range(3, 11):
            desk.pin(("within", "a", number))
        before = history(desk)
        for pin in (("within", "a", 11), ("within", "a", 2), ("good", "b")):
            assert_given(self, TooMany, "limit", 8, desk.pin, pin)
        for pin in (("within", "a", 3), ("within", "c", 3), None):
            self.assertRaises(InvalidOperation, desk.pin, pin)
        self.assertEqual(history(desk), before)
        self.assertRaises(InvalidOperation, desk.unpin, ("within", "a", 11))
        desk.unpin(("within", "a", 7))
        self.assertEqual(desk.pin(("within", "a", 11)), ())
        self.assertEqual([pin[2] for pin in desk.pins], [3, 4, 5, 6, 8, 9, 10, 11])

    def test_a_name_of_a_pin_stays(self):
        desk = desk_with(a=RANKS, b=RANKS.mapped({1: 1, 2: 2, 3: 4}), c=TWO)
        desk.pin(("below", "a", "b"))
        desk.pin(("choice", "c"))
        before = history(desk)
        for name in "abc":
            self.assertRaises(InvalidOperation, desk.remove, name)
        self.assertEqual(history(desk), before)
        desk.unpin(("below", "a", "b"))
        self.assertEqual(desk.remove("b"), (("b", 4, None),))
        self.assertRaises(InvalidOperation, desk.remove, "c")

    def test_changes_that_break_a_pin(self):
        desk = desk_with(a=RANKS, b=rank_program(3), c=greatest_choice(2, 1))
        desk.enter("d", RANKS.mapped({1: 1, 2: 2, 3: 9}))
        for pin in (("good", "a"), ("within", "b", 6), ("choice", "c"), ("below", "a", "d")):
            desk.pin(pin)
        before = history(desk)
        for pin, call, arguments in (
                (("good", "a"), desk.give, ("a", HIGH, 2)), (("good", "a"), desk.give, ("a", HIGH, 1)),
                (("below", "a", "d"), desk.give, ("a", HIGH, 9)), (("below", "a", "d"), desk.give, ("d", HIGH, 3)),
                (("below", "a", "d"), desk.narrow, ("a", 1)), (("below", "a", "d"), desk.narrow, ("d", 1)),
                (("within", "b", 6), desk.give, ("b", HIGH, 7)), (("within", "b", 6), desk.enter, ("b", TWO)),
                (("choice", "c"), desk.enter, ("c", RANKS)), (("choice", "c"), desk.give, ("c", ALONE, 2)),
                (("good", "a"), desk.enter, ("a", TWO))):
            assert_given(self, Refused, "claim", pin, call, *arguments)
        self.assertEqual(history(desk), before)
        for call, arguments in (
                (desk.give, ("a", HIGH, 8)), (desk.lengthen, ("a",)), (desk.lengthen, ("d",)), (desk.narrow, ("b", 2)),
                (desk.lengthen, ("c",)), (desk.narrow, ("c", 1)), (desk.give, ("b", HIGH, 6))):
            call(*arguments)
        self.assertEqual(desk.grades, {"a": 8, "b": 6, "c": 1, "d": 9})

    def test_changes_may_meet_both_programs_of_a_pin(self):
        desk = desk_with(a=RANKS, d=RANKS.mapped({1: 1, 2: 2, 3: 9}))
        desk.pin(("below", "a", "d"))
        assert_given(self, Refused, "claim", ("below", "a", "d"), desk.enter, "a", rank_program(3))
        self.assertRaises(InvalidView, desk.give, "a", None, 1)
        desk.unpin(("below", "a", "d"))
        desk.enter("a", rank_program(3))
        desk.enter("d", rank_program(3).mapped({1: 1, 2: 2, 3: 3, 4: 4, 5: 5, 6: 7}))
        self.assertEqual(desk.pin(("below", "a", "d")), ())


class TrialTest(unittest.TestCase):
    def test_without_effect(self):
        pick = random.Random(77)
        for _ in range(40):
            desk = desk_with(a=RANKS, b=rank_program(3))
            desk.pin(("good", "a"))
            desk.undo()
            before = history(desk)
            changes = [some_change(pick, ("a", "b", "c")) for _ in range(pick.randrange(5))]
            changes = [one for one in changes if one[0] not in ("undo", "redo")]
            twin = desk.twin()
            answers = [done(twin, *change) for change in changes]
            failed = [one for one in answers if one and isinstance(one[0], type)]
            if failed:
                with self.assertRaises(failed[0][0]) as caught:
                    desk.trial(*changes)
                self.assertEqual(list(vars(caught.exception).values()), list(failed[0][1:]))
            else:
                self.assertEqual(desk.trial(*changes), tuple(answers))
            self.assertEqual(history(desk), before)

    def test_by_hand(self):
        desk = desk_with(a=RANKS)
        self.assertEqual(desk.trial(), ())
        self.assertEqual(
            desk.trial(
                ("enter", "b", TWO), ("give", "b", HIGH, 9), ("pin", ("below", "a", "b")), ("lengthen", "a"), ("unpin", ("below", "a", "b")),
                ("narrow", "b", 1), ("remove", "a")),
            ((("b", None, "double"),), (("b", "double", 9),), (), (), (), (("b", 9, 1),), (("a", 3, None),)))
        self.assertEqual(shown(desk), shown(desk_with(a=RANKS)))

    def test_changes_of_no_form(self):
        desk = desk_with(a=RANKS)
        wrong = odd_values() + [
            ("enter",), ("enter", "b"), ("enter", "b", RANKS, 1), ["enter", "b", RANKS], ("remove",), ("remove", "a", 1), ("give", "a", LOW),
            ("lengthen",), ("lengthen", "a", 1), ("narrow", "a"), ("pin",), ("pin", "good", "a"), ("unpin",), ("undo",), ("redo",),
            ("undo", 1), (["remove"], "a"), ({}, "a"), ("trial",), ("twin",), (("enter",), "b", RANKS), (1, "a"), ("Enter", "b", RANKS), ("", "a"), "lengthen a"]
        for change in wrong:
            with self.subTest(change=change):
                self.assertRaises(InvalidOperation, desk.trial, change)
                # The forms of all changes are looked at ahead of the errors of any.
                self.assertRaises(InvalidOperation, desk.trial, ("remove", "zz"), change)
                self.assertRaises(InvalidOperation, desk.trial, ("lengthen", "a"), change, ("remove", "zz"))
        self.assertEqual(len(history(desk)), 3)

    def test_errors_of_the_first_that_fails(self):
        desk = desk_with(a=RANKS)
        assert_given(self, UnknownName, "wanted", "b", desk.trial, ("remove", "a"), ("lengthen", "b"), ("enter", "B", None))
        assert_given(self, UnknownName, "wanted", "a", desk.trial, ("remove", "a"), ("lengthen", "a"))
        assert_given(self, Refused, "claim", ("good", "a"), desk.trial, ("pin", ("good", "a")), ("enter", "a", TWO), ("remove", "b"))
        self.assertRaises(InvalidName, desk.trial, ("enter", "B", None), ("enter", "b", None))
        self.assertRaises(InvalidProgram, desk.trial, ("enter", "b", None), ("remove", "c"))
        self.assertRaises(InvalidOperation, desk.trial, ("pin", ("good", "a")), ("remove", "a"))
        self.assertRaises(InvalidView, desk.trial, ("give", "a", None, None))
        assert_given(self, TooMany, "limit", 6, desk.trial, *[("lengthen", "a")] * 6)
        self.assertEqual(desk.trial(*[("lengthen", "a")] * 5), ((),) * 5)


class UndoTest(unittest.TestCase):
    def test_pins_are_changes(self):
        desk = desk_with(a=RANKS)
        desk.pin(("good", "a"))
        self.assertEqual([desk.undo(), desk.pins], [(), ()])
        self.assertEqual([desk.enter("a", TWO), desk.pins], [(("a", 3, "double"),), ()])
        with self.assertRaises(NothingToUndo) as caught:
            desk.redo()
        self.assertEqual(caught.exception.many, 1)
        self.assertEqual(desk.undo(many=2), (("a", "double", None),))
        self.assertEqual([desk.redo(many=2), desk.grades], [(("a", None, "double"),), {"a": "double"}])

    def test_changes_without_news_are_changes(self):
        desk = desk_with(a=RANKS)
        self.assertEqual([desk.enter("a", RANKS), desk.undo(), desk.grades], [(), (), {"a": 3}])
        self.assertEqual([desk.undo(), desk.redo(), desk.redo()], [(("a", 3, None),), (("a", None, 3),), ()])

    def test_redo_as_long_as_no_other_change_was_made(self):
        desk = desk_with(a=RANKS, b=TWO)
        desk.undo(many=2)
        for call, arguments in ((desk.remove, ("a",)), (desk.enter, ("A", RANKS)), (desk.pin, (("good", "a"),))):
            self.assertRaises((UnknownName, InvalidName, InvalidOperation), call, *arguments)
        self.assertEqual(desk.trial(("enter", "c", RANKS)), ((("c", None, 3),),))
        self.assertEqual([desk.undo(many=0), desk.redo(many=0)], [(), ()])
        self.assertEqual(desk.redo(many=2), (("a", None, 3), ("b", None, "double")))
        desk.undo()
        desk.enter("c", RANKS)
        for many in (1, 2):
            with self.assertRaises(NothingToUndo):
                desk.redo(many=many)
        self.assertEqual([desk.redo(many=0), list(desk)], [(), ["a", "c"]])

    def test_wrong_numbers(self):
        desk = desk_with(a=RANKS, b=TWO)
        desk.undo()
        before = history(desk)
        for step in (desk.undo, desk.redo):
            for many in [-1, -LONGEST] + odd_values():
                with self.assertRaises(InvalidNumber) as caught:
                    step(many=many)
                self.assertIs(caught.exception.given, many)
            for many in (2, 3, LONGEST):
                with self.assertRaises(NothingToUndo) as caught:
                    step(many=many)
                self.assertEqual(caught.exception.many, many)
            self.assertRaises(TypeError, step, 1)
        self.assertEqual(history(desk), before)


class TwinTest(unittest.TestCase):
    def test_each_goes_on_by_itself(self):
        desk = desk_with(a=RANKS, b=TWO)
        desk.pin(("good", "a"))
        desk.undo()
        twin = desk.twin()
        self.assertEqual([twin == desk, history(twin)], [True, history(desk)])
        desk.redo()
        twin.remove("a")
        self.assertEqual([desk.pins, twin.pins, twin == desk], [(("good", "a"),), (), False])
        self.assertEqual([list(desk), list(twin)], [["a", "b"], ["b"]])
        twin.undo()
        twin.pin(("good", "a"))
        self.assertTrue(twin == desk)
        self.assertEqual(twin.undo(many=3), (("a", 3, None), ("b", "double", None)))

    def test_equality(self):
        desk = desk_with(a=RANKS, b=RANKS)
        self.assertEqual(desk, desk_with(b=RANKS, a=rank_program(2)))
        self.assertNotEqual(desk, desk_with(a=RANKS, b=TWO))
        self.assertNotEqual(desk, desk_with(a=RANKS))
        self.assertNotEqual(desk, desk_with(a=RANKS, c=RANKS))
        other = desk.twin()
        for one in (desk, other):
            for pin in (("good", "a"), ("good", "b"))[::1 if one is desk else -1]:
                one.pin(pin)
        self.assertNotEqual(desk, other)
        self.assertTrue(desk != other)
        for value in odd_values() + [0, desk.programs]:
            self.assertIs(desk == value, False)
            self.assertIs(desk != value, True)


class InTest(unittest.TestCase):
    def test_names(self):
        desk = desk_with(b=RANKS, a=TWO, abcdefgh=RANKS)
        self.assertEqual([list(desk), len(desk)], [["a", "abcdefgh", "b"], 3])
        self.assertEqual([desk["a"], desk["b"]], [TWO, RANKS])
        for value in NO_NAMES + ["c", "abcdefg"]:
            self.assertIs(value in desk, False)
        for name in ("a", "b", "abcdefgh"):
            self.assertIs(name in desk, True)
        self.assertNotIn(TOO_LONG, desk)


if __name__ == "__main__":
    unittest.main()
