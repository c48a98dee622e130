"""Programs: what is one, what its methods return and refuse, and point [0.12]."""

import copy
import unittest

from fewnames.base.rounds import Round
from fewnames.base.runs import Run, all_runs, joint_run, lined_run
from fewnames.errors import InvalidNumber, InvalidOperation, InvalidProgram, InvalidRun, InvalidView, TooMany
from fewnames.programs.programs import MAX_NAME, Program, is_names, program_by
from fewnames.views.views import all_patterns, pattern_count, view_of, views_of
from tests.samples import (
    APART, BACK, LONGEST, RANKS, TOGETHER, TOO_LONG, assert_given, assert_untouched, mixed, odd_values,
    plain_carrier, plain_pattern, plain_renamed, plain_view)

ALONE = (0, (((0, (0,)),),))
LOW = (0, (((0, (0, 1)),),))
HIGH = (1, (((1, (0, 1)),),))
SHAPES = ((1, 0), (1, 6), (2, 0), (2, 1), (2, 3), (3, 1), (3, 2), (4, 1), (5, 0), (5, 1))
LARGEST = ((2, 6), (3, 3), (4, 2), (5, 1))
NO_NAMES = [0, 100, -1, LONGEST] + odd_values()
NO_SIZES = [0, 6, -1, LONGEST] + odd_values()
NO_LENGTHS = [-1, 7, LONGEST] + odd_values()


def wrong_names(right):
    """Values that are no dict from the patterns of RANKS to new names."""
    for key in list(right):
        less = {one: name for one, name in right.items() if one != key}
        yield less
        for name in NO_NAMES + ["1", [1], (1,)]:
            yield {**less, key: name}
        for other in (None, True, 0, "", (), (0,), (0, ()), (0, (((0, (0,)),),) * 2), (0, (((0, (0, 2)),),)),
                      (1, (((1, (1,)),),)), (2, (((2, (0, 1, 2)),),)), (key, 1), (TOO_LONG, ())):
            yield {**less, other: 1}
            yield {**right, other: 1}
    yield {(False, (((0, (0,)),),)): 1, LOW: 2, HIGH: 3}
    yield {(0, (((False, (0,)),),)): 1, LOW: 2, HIGH: 3}
    yield {(0, (((0, (False,)),),)): 1, LOW: 2, HIGH: 3}
    yield {ALONE: 1, LOW: 2, (True, (((1, (0, 1)),),)): 3}
    yield {ALONE: 1, LOW: 2, (1, (((1, (0, True)),),)): 3}
    yield from [{}, None, (), [], list(right.items()), tuple(right), str(right), 0, RANKS]


class MakingTest(unittest.TestCase):
    def test_programs(self):
        for size, length in SHAPES + LARGEST:
            names = {one: at % 99 + 1 for at, one in enumerate(all_patterns(size, length))}
            made = Program(size, length, names)
            self.assertEqual([made.size, made.length, made.names], [size, length, names])
            self.assertEqual(list(made.names), list(all_patterns(size, length)))
            self.assertIs(is_names(size, length, names), True)

    def test_the_order_of_the_dict_has_no_effect(self):
        back = Program(2, 1, {HIGH: 3, LOW: 2, ALONE: 1})
        self.assertEqual(back, RANKS)
        self.assertEqual(list(back.names.items()), [(ALONE, 1), (LOW, 2), (HIGH, 3)])
        self.assertIs(is_names(2, 1, {HIGH: 3, LOW: 2, ALONE: 1}), True)

    def test_the_bounds_of_new_names(self):
        self.assertEqual(MAX_NAME, 99)
        made = Program(2, 1, {ALONE: 99, LOW: 1, HIGH: 99})
        self.assertEqual([made.told, made.greatest], [(1, 99), 99])

    def test_no_such_dict(self):
        for names in list(wrong_names(RANKS.names)) + odd_values():
            with self.subTest(names=names):
                self.assertRaises(InvalidProgram, Program, 2, 1, names)
                self.assertIs(is_names(2, 1, names), False)

    def test_a_dict_for_another_size_or_length(self):
        for size, length in SHAPES:
            names = {one: 1 for one in all_patterns(size, length)}
            for other in SHAPES:
                self.assertIs(is_names(*other, names), other == (size, length) or (length, other[1]) == (0, 0))

    def test_wrong_sizes_and_lengths(self):
        for size in NO_SIZES:
            for length in (1, 6, 7, None):
                for call in (Program, is_names, program_by):
                    with self.subTest(size=size, length=length):
                        assert_given(self, InvalidNumber, "given", size, call, size, length, None)
        for length in NO_LENGTHS:
            for size in (2, 5):
                for call in (Program, is_names, program_by):
                    with self.subTest(size=size, length=length):
                        assert_given(self, InvalidNumber, "given", length, call, size, length, None)

    def test_too_many_patterns(self):
        for size, length in ((3, 4), (3, 6), (4, 3), (4, 6), (5, 2), (5, 6)):
            for names in ({}, None, RANKS.names):
                for call in (Program, is_names):
                    assert_given(self, TooMany, "limit", 1200, call, size, length, names)
            assert_given(self, TooMany, "limit", 1200, program_by, size, length, lambda one: 1)

    def test_programs_never_change(self):
        for name in ("size", "length", "names", "told", "greatest"):
            self.assertRaises(AttributeError, setattr, RANKS, name, 1)
        with self.assertRaises(TypeError):
            RANKS[ALONE] = 1


class ToldTest(unittest.TestCase):
    def test_told(self):
        for size, length in SHAPES:
            made = mixed(size, length)
            self.assertEqual(made.told, tuple(sorted(set(made.names.values()))))
            self.assertEqual(made.greatest, max(made.names.values()))
        self.assertEqual([program_by(3, 1, lambda one: 8).told, program_by(3, 1, lambda one: 8).greatest], [(8,), 8])


class NameOfTest(unittest.TestCase):
    def test_the_new_name_of_the_pattern(self):
        for size, length in SHAPES:
            made = mixed(size, length)
            for pattern, name in made.names.items():
                self.assertEqual(made.name_of(pattern), name)
                far = plain_renamed(pattern, {one: 4 * one + 6 for one in plain_carrier(pattern)})
                self.assertEqual(made.name_of(far), name)

    def test_no_view(self):
        for value in odd_values() + [0, (0, (((0, (1,)),),)), [0, ()], (0, []), (True, ())]:
            with self.subTest(value=value):
                self.assertRaises(InvalidView, RANKS.name_of, value)
                for name in (1, 0, None, 100):
                    self.assertRaises(InvalidView, RANKS.with_name, value, name)

    def test_no_pattern_of_the_program(self):
        for view in ((0, ()), (0, (((0, (0,)),),) * 2), (2, (((2, (0, 1, 2)),),)), (9, (((9, (5, 7, 9)),),))):
            self.assertRaises(InvalidOperation, RANKS.name_of, view)
            self.assertRaises(InvalidOperation, RANKS.with_name, view, 1)


class NamesInTest(unittest.TestCase):
    def test_names_in_all_runs(self):
        for size, length in ((1, 2), (2, 2), (3, 1), (3, 2), (4, 1), (5, 1)):
            made = mixed(size, length)
            for many in range(1, size + 1):
                for run in list(all_runs((2, 3, 5, 7, 11)[:many], length))[::3]:
                    found = made.names_in(run)
                    names = {one: made.names[plain_pattern(plain_view(run, one))] for one in run.threads}
                    self.assertEqual(list(found.items()), list(names.items()))

    def test_a_program_only_compares_old_names(self):
        made = mixed(3, 2)
        for run in all_runs((0, 1, 2), 2):
            far = made.names_in(run.renamed({0: 4, 1: 90, 2: LONGEST}))
            self.assertEqual(list(far.values()), list(made.names_in(run).values()))

    def test_no_such_run(self):
        wrong = [Run((0, 1), ()), Run((0, 1), (APART, APART)), joint_run((0, 1, 2), 1), (APART,), APART, Run((0,), ())]
        for value in wrong + [one for one in odd_values() if not isinstance(one, Run)]:
            with self.subTest(value=value):
                self.assertRaises(InvalidRun, RANKS.names_in, value)

    def test_a_changed_dict_changes_nothing(self):
        RANKS.names_in(Run((0, 1), (APART,))).clear()
        self.assertEqual(RANKS.names_in(Run((0, 1), (APART,))), {0: 1, 1: 3})


class WithNameTest(unittest.TestCase):
    def test_another_new_name(self):
        made = RANKS.with_name((9, (((9, (5, 9)),),)), 7)
        self.assertEqual(made.names, {ALONE: 1, LOW: 2, HIGH: 7})
        self.assertEqual([made.told, made.greatest, RANKS.greatest], [(1, 2, 7), 7, 3])
        self.assertEqual(RANKS.with_name(LOW, 2), RANKS)
        for pattern in RANKS.names:
            for name in (1, 2, 50, 99):
                self.assertEqual(RANKS.with_name(pattern, name).names, {**RANKS.names, pattern: name})

    def test_no_new_name(self):
        for name in NO_NAMES:
            for view in (LOW, (0, ()), (2, (((2, (0, 1, 2)),),))):
                with self.subTest(name=name):
                    assert_given(self, InvalidNumber, "given", name, RANKS.with_name, view, name)


class MappedTest(unittest.TestCase):
    def test_mapped(self):
        self.assertEqual(RANKS.mapped({3: 9, 1: 5, 2: 9}).names, {ALONE: 5, LOW: 9, HIGH: 9})
        self.assertEqual(RANKS.mapped({1: 1, 2: 2, 3: 3}), RANKS)
        for size, length in SHAPES:
            made = mixed(size, length)
            table = {one: 100 - one for one in made.told}
            self.assertEqual(made.mapped(table).names, {one: 100 - name for one, name in made.names.items()})

    def test_no_such_dict(self):
        wrong = [
            {1: 1, 2: 2}, {1: 1, 2: 2, 4: 3}, {1: 1, 2: 2, 3: 3, 4: 4}, {True: 1, 2: 2, 3: 3}, {"1": 1, 2: 2, 3: 3},
            {None: 1, 2: 2, 3: 3}, {(1,): 1, 2: 2, 3: 3}, [(1, 1), (2, 2), (3, 3)], [1, 2, 3], (1, 2, 3), RANKS.names,
        ]
        wrong += [{1: 1, 2: 2, 3: name} for name in NO_NAMES + [[1], (1,), {}]]
        for table in wrong + odd_values():
            with self.subTest(table=table):
                self.assertRaises(InvalidOperation, RANKS.mapped, table)


class OtherSizesTest(unittest.TestCase):
    def test_for_fewer(self):
        for size, length in SHAPES:
            made = mixed(size, length)
            for few in range(1, size + 1):
                less = made.for_fewer(few)
                names = {one: name for one, name in made.names.items() if len(plain_carrier(one)) <= few}
                self.assertEqual([less.size, less.length, less.names], [few, length, names])
            self.assertEqual(made.for_fewer(size), made)

    def test_no_fewer(self):
        for size in NO_SIZES + [3]:
            assert_given(self, InvalidNumber, "given", size, RANKS.for_fewer, size)

    def test_mirrored(self):
        for size, length in SHAPES:
            made = mixed(size, length)
            other = made.mirrored()
            self.assertEqual([other.size, other.length], [size, length])
            for pattern, name in other.names.items():
                back = {one: 100 - one for one in plain_carrier(pattern)}
                self.assertEqual(name, made.names[plain_pattern(plain_renamed(pattern, back))])
            self.assertEqual(other.mirrored(), made)
        self.assertEqual(RANKS.mirrored().names, {ALONE: 1, LOW: 3, HIGH: 2})

    def test_lengthened(self):
        for size, length in ((1, 0), (1, 5), (2, 0), (2, 1), (2, 2), (3, 0), (3, 1), (4, 0), (5, 0)):
            made = mixed(size, length)
            more = made.lengthened()
            self.assertEqual([more.size, more.length, len(more)], [size, length + 1, pattern_count(size, length + 1)])
            for run in all_runs(tuple(range(size)), length + 1):
                self.assertEqual(more.names_in(run), made.names_in(run.shortened(length)))

    def test_lengthened_to_many_patterns(self):
        for size, length in ((2, 5), (3, 2), (4, 1)):
            made = mixed(size, length)
            more = made.lengthened()
            runs = list(all_runs(tuple(range(size)), length + 1))[::5]
            for run in runs:
                self.assertEqual(more.names_in(run), made.names_in(run.shortened(length)))

    def test_too_long(self):
        for size in (1, 2):
            assert_given(self, TooMany, "limit", 6, mixed(size, 6).lengthened)
        for size, length in ((3, 3), (4, 2), (5, 1)):
            assert_given(self, TooMany, "limit", 1200, mixed(size, length).lengthened)


class RowTest(unittest.TestCase):
    def test_membership(self):
        for size, length in SHAPES:
            made = mixed(size, length)
            for pattern in made.names:
                self.assertIs(pattern in made, True)
                far = plain_renamed(pattern, {one: one + 1 for one in plain_carrier(pattern)})
                self.assertIs(far in made, False)
        wrong = [(0, ()), (0, (((0, (0,)),),) * 2), (2, (((2, (0, 1, 2)),),)), (False, (((0, (0,)),),)), [0, (((0, (0,)),),)],
                 (0, [((0, (0,)),)]), (0, (((0, (False,)),),)), (0, (((0, [0]),),)), 0, 1, 2, 3, {ALONE: 1}]
        for value in wrong + odd_values():
            with self.subTest(value=value):
                self.assertIs(value in RANKS, False)

    def test_length(self):
        for size, length in SHAPES + LARGEST:
            self.assertEqual(len(mixed(size, length)), pattern_count(size, length))

    def test_text(self):
        self.assertEqual(str(RANKS), "program for 2 threads, 1 rounds: 3 patterns, names to 3")
        self.assertEqual(str(program_by(4, 2, lambda one: 42)), "program for 4 threads, 2 rounds: 865 patterns, names to 42")
        self.assertEqual(str(program_by(1, 0, lambda one: 1)), "program for 1 threads, 0 rounds: 1 patterns, names to 1")

    def test_no_iteration(self):
        self.assertRaises(TypeError, iter, RANKS)
        self.assertRaises(TypeError, list, RANKS)

    def test_equality(self):
        self.assertIs(RANKS == Program(2, 1, RANKS.names), True)
        self.assertIs(RANKS != Program(2, 1, RANKS.names), False)
        unlike = [RANKS.with_name(LOW, 1), RANKS.mirrored(), RANKS.for_fewer(1), RANKS.lengthened()]
        for other in unlike:
            self.assertIs(RANKS == other, False)
            self.assertIs(RANKS != other, True)
        one = program_by(2, 0, lambda pattern: 1)
        self.assertIs(one == program_by(3, 0, lambda pattern: 1), False)
        self.assertIs(program_by(1, 1, lambda pattern: 1) == program_by(1, 2, lambda pattern: 1), False)
        for value in [one for one in odd_values() if not isinstance(one, Program)] + [RANKS.names, str(RANKS), 0]:
            self.assertIs(RANKS == value, False)
            self.assertIs(RANKS != value, True)
            self.assertIs(value == RANKS, False)


class ProgramByTest(unittest.TestCase):
    def test_the_rule_is_called_once_for_each_pattern_in_their_order(self):
        for size, length in SHAPES + LARGEST:
            asked = []

            def rule(pattern):
                asked.append(pattern)
                return len(asked) % 99 + 1

            made = program_by(size, length, rule)
            self.assertEqual(tuple(asked), all_patterns(size, length))
            self.assertEqual(list(made.names.values()), [at % 99 + 1 for at in range(1, len(asked) + 1)])

    def test_no_new_name_is_refused_at_once(self):
        for name in NO_NAMES + ["1", [1], (1,)]:
            asked = []

            def rule(pattern):
                asked.append(pattern)
                return name if len(asked) == 4 else 1

            with self.subTest(name=name):
                self.assertRaises(InvalidProgram, program_by, 3, 1, rule)
                self.assertEqual(len(asked), 4)

    def test_the_rule_is_not_called_for_wrong_sizes(self):
        def rule(pattern):
            self.fail("the rule is called")

        assert_given(self, InvalidNumber, "given", 0, program_by, 0, 7, rule)
        assert_given(self, InvalidNumber, "given", 7, program_by, 5, 7, rule)
        assert_given(self, TooMany, "limit", 1200, program_by, 5, 2, rule)


class NothingSharedTest(unittest.TestCase):
    def test_changed_dicts_change_no_program(self):
        names = {ALONE: 1, LOW: 2, HIGH: 3}
        made = Program(2, 1, names)
        names[LOW] = 9
        names.clear()
        self.assertEqual(made, RANKS)
        made.names[LOW] = 9
        made.names.clear()
        self.assertEqual([made, made.names], [RANKS, {ALONE: 1, LOW: 2, HIGH: 3}])
        table = {1: 1, 2: 5, 3: 6}
        other = made.mapped(table)
        table.clear()
        self.assertEqual(other.told, (1, 5, 6))

    def test_arguments_and_program_stay(self):
        made = mixed(3, 1)
        before = copy.deepcopy(made)
        run = Run((2, 7), (Round(((7,), (2,))),))
        assert_untouched(self, made.name_of, view_of(run, 2))
        assert_untouched(self, made.names_in, run)
        assert_untouched(self, made.with_name, view_of(run, 2), 50)
        assert_untouched(self, made.mapped, {one: 1 for one in made.told[::-1]})
        assert_untouched(self, made.for_fewer, 2)
        assert_untouched(self, made.mirrored)
        assert_untouched(self, made.lengthened)
        assert_untouched(self, is_names, 2, 1, {HIGH: 3, LOW: 2, ALONE: 1})
        assert_untouched(self, Program, 2, 1, {HIGH: 3, LOW: 2, ALONE: 1})
        assert_untouched(self, program_by, 2, 1, len)
        self.assertRaises(InvalidOperation, made.mapped, {})
        self.assertRaises(InvalidView, made.name_of, None)
        str(made), len(made), run in made
        self.assertEqual(made, before)
        self.assertEqual(list(made.names.items()), list(before.names.items()))

    def test_views_of_runs_are_the_patterns(self):
        self.assertEqual([RANKS.name_of(view) for view in views_of(lined_run((8, 5), 1))], [2, 1])
        self.assertEqual(RANKS.names_in(Run((0, 1), (TOGETHER,))), {0: 2, 1: 3})
        self.assertEqual(RANKS.names_in(Run((0, 1), (BACK,))), {0: 2, 1: 1})


if __name__ == "__main__":
    unittest.main()
