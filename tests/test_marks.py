"""Marks, triangles and forced doubles: points [0.16], [9.1] and [9.2], and what their functions return and refuse."""

import itertools
import math
import unittest

from fewnames.base.rounds import Round
from fewnames.base.runs import Run, all_runs, joint_run
from fewnames.counts.binomials import allowed_marks, common_factor, is_barred
from fewnames.counts.marks import (
    all_marked, forced_double, forced_paper, forced_run, is_forced_paper, is_triangle, mark_counts, marked_threads,
    reached_marks, triangle_from, triangle_of)
from fewnames.errors import InvalidGroup, InvalidNumber, InvalidOperation, InvalidProgram, InvalidRun
from fewnames.programs.checks import is_double
from fewnames.programs.programs import Program
from tests.samples import (
    APART, LONGEST, RANKS, TOO_LONG, assert_given, assert_untouched, mixed, odd_values, plain_outcomes, rank_program,
    some_programs)

PROGRAMS = some_programs()
TWO = RANKS.mapped({1: 1, 2: 2, 3: 2})
NO_GROUPS = [
    [1, 2], (0,), (100,), (-1,), (1, 1), (2, 1), (1, 100), (0, 1), (True,), (1, True), (True, 2), ("1",), (1, "2"), (None,),
    ((1,),), {1: 2}, {}, 1, "1", None, True, (TOO_LONG,), (1, LONGEST), RANKS, APART, [],
]
NO_PROGRAMS = [one for one in odd_values() if not isinstance(one, Program)] + [0, RANKS.names]


def groups_of(program):
    """Groups of each size, with names that are told and others."""
    told = program.told
    groups = [(), told, tuple(range(1, 100)), (told[0],), told[-1:], told[::2], told[1:], tuple(sorted({*told[:2], 50, 99}))]
    if len(told) < 5:
        groups += [some for many in range(len(told) + 1) for some in itertools.combinations(told, many)]
    return sorted(set(groups))


def plain_marked(outcome, group):
    return tuple(at for at, name in enumerate(outcome) if name in group)


def plain_mark_counts(outcomes, group):
    sums = {}
    for outcome, sign in outcomes:
        marked = plain_marked(outcome, group)
        sums[marked] = sums.get(marked, 0) + sign
    return {key: sums[key] for key in sorted(sums) if sums[key]}


def all_sums(size):
    """All rows of numbers of marked threads."""
    return [some for many in range(size + 2) for some in itertools.combinations(range(size + 1), many)]


class MarkedThreadsTest(unittest.TestCase):
    def test_against_names(self):
        for program in (RANKS, TWO, rank_program(3), mixed(3, 2, 4)):
            for group in groups_of(program):
                for many in range(1, program.size + 1):
                    for run in all_runs((2, 5, 8)[:many], program.length):
                        names = program.names_in(run)
                        right = tuple(one for one in run.threads if names[one] in group)
                        self.assertEqual(marked_threads(program, group, run), right)

    def test_no_such_run(self):
        wrong = [Run((0, 1), ()), joint_run((0, 1), 2), joint_run((0, 1, 2), 1), APART, (APART,), 0]
        for value in wrong + [one for one in odd_values() if not isinstance(one, Run)]:
            with self.subTest(value=value):
                self.assertRaises(InvalidRun, marked_threads, RANKS, (), value)
                self.assertRaises(InvalidRun, marked_threads, RANKS, (1, 99), value)


class CountsTest(unittest.TestCase):
    def test_against_all_runs(self):
        for program in PROGRAMS:
            for many in range(1, program.size + 1):
                outcomes = plain_outcomes(program, many)
                for group in groups_of(program):
                    right = plain_mark_counts(outcomes, group)
                    self.assertEqual(list(mark_counts(program, group, many).items()), list(right.items()))

    def test_no_thread(self):
        for program in PROGRAMS[::5]:
            for group in groups_of(program):
                self.assertEqual(mark_counts(program, group, 0), {(): 1})

    def test_the_number_depends_on_how_many_are_marked_alone(self):
        for program in PROGRAMS:
            for group in groups_of(program):
                triangle = triangle_of(program, group)
                for many in range(program.size + 1):
                    counts = mark_counts(program, group, many)
                    for k in range(many + 1):
                        for some in itertools.combinations(range(many), k):
                            self.assertEqual(counts.get(some, 0), triangle[many][k])

    def test_all_marked(self):
        for program in PROGRAMS:
            for group in groups_of(program):
                right = tuple(
                    mark_counts(program, group, many).get(tuple(range(many)), 0) for many in range(program.size + 1))
                self.assertEqual(all_marked(program, group), right)

    def test_wrong_numbers(self):
        for many in odd_values() + [-1, 3, LONGEST]:
            assert_given(self, InvalidNumber, "given", many, mark_counts, RANKS, (1,), many)


class TriangleTest(unittest.TestCase):
    def test_triangles_of_programs(self):
        for program in PROGRAMS:
            for group in groups_of(program):
                triangle = triangle_of(program, group)
                self.assertEqual([len(row) for row in triangle], list(range(1, program.size + 2)))
                self.assertEqual(triangle, triangle_from(all_marked(program, group)))
                self.assertIs(is_triangle(triangle), True)
                for many, row in enumerate(triangle):
                    self.assertEqual(sum(math.comb(many, k) * number for k, number in enumerate(row)), 1)

    def test_lengthened_fewer_mirrored_and_turned(self):
        for program in PROGRAMS[::2]:
            for group in groups_of(program)[::2]:
                triangle = triangle_of(program, group)
                self.assertEqual(triangle_of(program.mirrored(), group), triangle)
                if program.size * (program.length + 1) < 8:
                    self.assertEqual(triangle_of(program.lengthened(), group), triangle)
                for size in range(1, program.size + 1):
                    self.assertEqual(triangle_of(program.for_fewer(size), group), triangle[:size + 1])
                others = tuple(name for name in range(1, 100) if name not in group)
                self.assertEqual(triangle_of(program, others), tuple(row[::-1] for row in triangle))

    def test_all_and_none_marked(self):
        for size in range(1, 6):
            program = rank_program(size)
            ends = tuple((0,) * many + (1,) for many in range(size + 1))
            self.assertEqual(triangle_of(program, program.told), ends)
            self.assertEqual(triangle_of(program, ()), tuple(row[::-1] for row in ends))

    def test_triangle_from(self):
        rows = [(1,), (1, 0), (1, 5), (1, -3, 7), (1, 0, -1), (1, 1, 1, 1, 1, 1), (1, 4, -9, 2, 0, 11),
                (1, LONGEST, -LONGEST, LONGEST)]
        for sums in rows:
            right = tuple(
                tuple(sum((-1) ** j * math.comb(m - k, j) * sums[k + j] for j in range(m - k + 1)) for k in range(m + 1))
                for m in range(len(sums)))
            self.assertEqual(triangle_from(sums), right)
            if LONGEST not in sums:
                self.assertIs(is_triangle(triangle_from(sums)), True)

    def test_no_sums(self):
        wrong = [(), (0,), (2,), (-1,), (True,), (1, True), (1, None), (1, "1"), (1, (1,)), [1], [1, 0], (1, TOO_LONG), "1", 1,
                 (1, 0, 0, 0, 0, 0, 0), {1: 0}, ((1,),), (None, 1)]
        for value in wrong + odd_values():
            with self.subTest(value=value):
                self.assertRaises(InvalidOperation, triangle_from, value)

    def test_no_triangles(self):
        right = ((1,), (1, 0), (0, 1, -1))
        self.assertIs(is_triangle(right), True)
        near = [((1,), (0, 1), (0, 0, 2)), (), ((2,),), ((0,),), ((1,), (1, 1)), ((1,), (1, 0), (1, 0, 0), (2, 0, 0, 0)), ((True,),),
                ((1,), (True, 0)), ((1,), (1, False)), ((1,), [1, 0]), [(1,), (1, 0)], ((1,), (1, 0), (0, 1)), ((1,), (1,)),
                ((1,), (1, 0, 0)), ((1, 0),), ((1,), ()), ((1,), None), ((1,), 1), ((1,), ("1", 0)), ((1,), (1, None)), (1,), 1,
                ((1,), (1 - TOO_LONG, TOO_LONG)), right[::-1], right[1:], right + right[-1:], {(1,): (1, 0)}, ((), (1,)),
                triangle_from((1, 0, 0, 0, 0, 0)) + ((1, 0, 0, 0, 0, 0, 0),), "1", ("1",)]
        for at, row in enumerate(right):
            for place in range(len(row)):
                for other in (row[place] + 1, row[place] - 1, str(row[place]), None, bool(row[place])):
                    near.append(right[:at] + (row[:place] + (other,) + row[place + 1:],) + right[at + 1:])
        for value in near + odd_values():
            with self.subTest(value=value):
                self.assertIs(is_triangle(value), False)

    def test_six_rows(self):
        self.assertIs(is_triangle(triangle_from((1, 3, -2, 0, 7, 8))), True)
        self.assertIs(is_triangle(triangle_from((1,))), True)


class ReachedTest(unittest.TestCase):
    def test_reached_marks(self):
        for program in PROGRAMS:
            outcomes = plain_outcomes(program, program.size)
            for group in groups_of(program):
                right = tuple(sorted({len(plain_marked(outcome, group)) for outcome, _ in outcomes}))
                self.assertEqual(reached_marks(program, group), right)

    def test_no_common_factor(self):
        # By point [0.17] the numbers that come up have binomials without a common factor.
        for program in PROGRAMS:
            for group in groups_of(program):
                self.assertEqual(common_factor(program.size, reached_marks(program, group)), 1)


class ForcedRunTest(unittest.TestCase):
    def test_a_run_is_always_found(self):
        for program in PROGRAMS[::5]:
            threads = tuple(range(program.size))
            for group in groups_of(program)[:5]:
                for numbers in all_sums(program.size):
                    if numbers and common_factor(program.size, numbers) == 1:
                        self.assertRaises(InvalidOperation, forced_run, program, group, numbers)
                    else:
                        run = forced_run(program, group, numbers)
                        self.assertEqual([run.threads, len(run)], [threads, program.length])
                        self.assertNotIn(len(marked_threads(program, group, run)), numbers)

    def test_no_numbers(self):
        wrong = [[1], (3,), (-1,), (1, 1), (2, 1), (True,), (1, "2"), (None,), ((1,),), {1: 1}, 1, (TOO_LONG,), [], None]
        for numbers in wrong + [one for one in odd_values() if one not in ((), (0,), (0, 1))]:
            with self.subTest(numbers=numbers):
                self.assertRaises(InvalidOperation, forced_run, RANKS, (2,), numbers)
        for numbers in ((0,), (2,), (0, 1), (1, 2), (0, 1, 2)):
            self.assertRaises(InvalidOperation, forced_run, RANKS, (2,), numbers)


class ForcedDoubleTest(unittest.TestCase):
    def test_doubles(self):
        forced = 0
        for program in PROGRAMS:
            if is_barred(program.size, program.greatest):
                forced += 1
                found = forced_double(program)
                self.assertEqual(found[0].threads, tuple(range(program.size)))
                self.assertIs(is_double(program, found), True)
            else:
                self.assertRaises(InvalidOperation, forced_double, program)
                self.assertRaises(InvalidOperation, forced_paper, program)
        self.assertGreater(forced, 15)

    def test_papers(self):
        for program in PROGRAMS:
            if program.greatest < program.size or not is_barred(program.size, program.greatest):
                self.assertRaises(InvalidOperation, forced_paper, program)
            else:
                paper = forced_paper(program)
                group, factor, row = paper
                self.assertIs(paper.__class__, tuple)
                self.assertEqual(row, triangle_of(program, group)[-1])
                self.assertTrue(0 < len(group) < program.greatest >= group[-1])
                marks = allowed_marks(program.size, program.greatest, len(group))
                self.assertTrue(factor > 1 and common_factor(program.size, marks) % factor == 0)
                self.assertTrue(any(number for k, number in enumerate(row) if k not in marks))
                self.assertIs(is_forced_paper(program, paper), True)

    def test_all_papers(self):
        for program in [one for one in PROGRAMS if one.size < 5 and len(one.told) < 7 and one.greatest < 8] + [rank_program(2)]:
            for many in range(4):
                for group in itertools.combinations(range(1, 8), many):
                    row = triangle_of(program, group)[-1]
                    for factor in (0, 1, 2, 3, 4, 6):
                        right = program.size <= program.greatest and 0 < many < program.greatest >= group[-1] and factor > 1 and all(
                            math.comb(program.size, k) % factor == 0
                            for k in allowed_marks(program.size, program.greatest, many))
                        self.assertIs(is_forced_paper(program, (group, factor, row)), right)
                        self.assertIs(is_forced_paper(program, (group, factor, row[:-1] + (row[-1] + 1,))), False)

    def test_values_near_a_paper(self):
        self.assertIs(is_forced_paper(TWO, ((2,), 2, (0, 1, -1))), True)
        self.assertIs(is_forced_paper(TWO, ((1,), 2, (-1, 1, 0))), True)
        near = [[(2,), 2, (0, 1, -1)], ([2], 2, (0, 1, -1)), ((2,), 2, [0, 1, -1]), ((2,), 2), ((2,), 2, (0, 1, -1), 0),
                ((2,), True, (0, 1, -1)), ((2,), "2", (0, 1, -1)), ((2,), None, (0, 1, -1)), ((2,), -2, (0, 1, -1)),
                ((2,), 4, (0, 1, -1)), ((2,), 1, (0, 1, -1)), ((2,), 0, (0, 1, -1)), ((2,), 2 * 10 ** 60, (0, 1, -1)),
                ((2,), 2, (False, 1, -1)), ((2,), 2, (0, True, -1)), ((2,), 2, (0, 1)), ((2,), 2, (0, 1, -1, 0)), ((2,), 2, (0, 1, "-1")),
                ((2,), 2, None), ((2,), 2, 0), ((3,), 2, (0, 1, -1)), ((), 2, (1, 0, 0)), ((1, 2), 2, (0, 0, 1)), ((True,), 2, (-1, 1, 0)),
                (("2",), 2, (0, 1, -1)), (2, 2, (0, 1, -1)), (None, 2, (0, 1, -1)), ((2, 1), 2, (0, 1, -1)), ((1,), 2, (0, 1, -1)),
                {(2,): 2}, ((2,), 2, ((0, 1), 1, -1)), ((2,), 2, (-1, 1, 0))]
        for value in near + odd_values():
            with self.subTest(value=value):
                self.assertIs(is_forced_paper(TWO, value), False)

    def test_few_names_have_no_paper(self):
        program = mixed(4, 1, 2)
        self.assertEqual(program.greatest, 2)
        self.assertIsInstance(forced_double(program), tuple)
        self.assertRaises(InvalidOperation, forced_paper, program)
        for factor in (2, 3, 4):
            self.assertIs(is_forced_paper(program, ((1,), factor, triangle_of(program, (1,))[-1])), False)

    def test_the_greatest_name_counts_and_not_how_many_are_told(self):
        program = RANKS.mapped({1: 1, 2: 3, 3: 3})
        self.assertRaises(InvalidOperation, forced_double, program)
        self.assertRaises(InvalidOperation, forced_paper, program)


class ErrorsTest(unittest.TestCase):
    def test_no_programs(self):
        for value in NO_PROGRAMS:
            for group in ((1,), None):
                with self.subTest(value=value):
                    for call in (all_marked, triangle_of, reached_marks):
                        self.assertRaises(InvalidProgram, call, value, group)
                    for call in (marked_threads, mark_counts, forced_run):
                        self.assertRaises(InvalidProgram, call, value, group, None)
            self.assertRaises(InvalidProgram, forced_double, value)
            self.assertRaises(InvalidProgram, forced_paper, value)
            self.assertRaises(InvalidProgram, is_forced_paper, value, ((2,), 2, (0, 1, -1)))

    def test_no_groups(self):
        for group in NO_GROUPS + [one for one in odd_values() if one != ()]:
            with self.subTest(group=group):
                for call in (all_marked, triangle_of, reached_marks):
                    self.assertRaises(InvalidGroup, call, RANKS, group)
                for call in (marked_threads, mark_counts, forced_run):
                    self.assertRaises(InvalidGroup, call, RANKS, group, None)


class NothingSharedTest(unittest.TestCase):
    def test_arguments_stay(self):
        for program in (TWO, mixed(3, 1, 4)):
            for call in (all_marked, triangle_of, reached_marks):
                assert_untouched(self, call, program, (1, 2))
            run = Run((3, 8), (Round(((8,), (3,))),))
            assert_untouched(self, marked_threads, program, (1, 2), run)
            assert_untouched(self, mark_counts, program, (1, 2), 2)
            assert_untouched(self, forced_run, program, (2,), ())
            assert_untouched(self, forced_double, program)
            paper = assert_untouched(self, forced_paper, program)
            assert_untouched(self, is_forced_paper, program, paper)
            assert_untouched(self, is_forced_paper, program, list(paper))
        assert_untouched(self, triangle_from, (1, 0, -1))
        assert_untouched(self, is_triangle, [[1], [1, 0]])

    def test_changed_dicts_change_nothing(self):
        mark_counts(TWO, (2,), 2).clear()
        self.assertEqual(mark_counts(TWO, (2,), 2), {(0,): 1, (0, 1): -1, (1,): 1})


if __name__ == "__main__":
    unittest.main()
