"""Good programs and doubles: points [0.13] and [6.1], and what their functions return and refuse."""

import itertools
import unittest

from fewnames.base.rounds import Round
from fewnames.base.runs import Run, all_runs, joint_run
from fewnames.errors import InvalidNumber, InvalidProgram, InvalidThreads, TooMany
from fewnames.programs.checks import (
    all_doubles, all_meetings, found_double, is_double, is_good, names_reached)
from fewnames.programs.programs import Program, program_by
from fewnames.views.views import all_patterns
from tests.samples import (
    APART, BACK, LONGEST, RANKS, TOGETHER, TOO_LONG, assert_given, assert_untouched, mixed, odd_values, plain_carrier,
    plain_outcomes, plain_pattern, plain_view, rank_program, some_programs)

TWO = RANKS.mapped({1: 1, 2: 2, 3: 2})
NO_PROGRAMS = [one for one in odd_values() if not isinstance(one, Program)] + [0, RANKS.names]
SMALL = [one for one in some_programs() if one.size * one.length < 6]


def plain_good(program):
    return all(len(set(outcome)) == len(outcome) for many in range(1, program.size + 1)
               for outcome, _ in plain_outcomes(program, many))


class GoodTest(unittest.TestCase):
    def test_good_programs(self):
        for size in range(1, 6):
            made = rank_program(size)
            self.assertIs(is_good(made), True)
            self.assertIsNone(found_double(made))

    def test_against_all_runs(self):
        for program in SMALL:
            good = plain_good(program)
            self.assertIs(is_good(program), good)
            self.assertIs(found_double(program) is None, good)

    def test_two_patterns_with_one_name(self):
        for size, length in ((2, 1), (3, 1), (2, 2)):
            good = program_by(size, length, lambda pattern, names=iter(range(1, 100)): next(names))
            self.assertIs(is_good(good), True)
            meetings = all_meetings(size, length)
            for one, other in itertools.combinations(all_patterns(size, length), 2):
                self.assertIs(is_good(good.with_name(other, good.name_of(one))), (one, other) not in meetings)

    def test_one_thread_is_always_good(self):
        for length in range(7):
            self.assertIs(is_good(mixed(1, length)), True)

    def test_no_round_is_never_good_for_two(self):
        for size in range(2, 6):
            self.assertIs(is_good(mixed(size, 0)), False)

    def test_good_programs_stay_good(self):
        for program in [rank_program(size) for size in (1, 2, 3, 4)] + [rank_program(3).lengthened(), rank_program(5)]:
            unlike = {name: 99 - at for at, name in enumerate(program.told)}
            changed = [program.mapped(unlike), program.mirrored()]
            changed += [program.for_fewer(size) for size in range(1, program.size + 1)]
            changed += [program.lengthened()] if program.size < 5 and len(program) < 50 else []
            for other in changed:
                self.assertIs(is_good(other), True)

    def test_no_program(self):
        for value in NO_PROGRAMS:
            with self.subTest(value=value):
                self.assertRaises(InvalidProgram, is_good, value)
                self.assertRaises(InvalidProgram, found_double, value)
                self.assertRaises(InvalidProgram, names_reached, value)
                for other in (None, (0, 1), ()):
                    self.assertRaises(InvalidProgram, is_double, value, other)
                    self.assertRaises(InvalidProgram, all_doubles, value, other)


class DoubleTest(unittest.TestCase):
    def test_found_doubles(self):
        for program in some_programs():
            found = found_double(program)
            if found is not None:
                run, one, other = found
                self.assertIs(found.__class__, tuple)
                self.assertLess(one, other)
                self.assertLessEqual(len(run.threads), program.size)
                self.assertEqual(len(run), program.length)
                names = {k: program.names[plain_pattern(plain_view(run, k))] for k in (one, other)}
                self.assertEqual(names[one], names[other])
                self.assertIs(is_double(program, found), True)

    def test_all_values_of_few(self):
        for program in (TWO, RANKS, mixed(2, 2, 3), mixed(3, 1, 4)):
            for many in range(1, program.size + 1):
                for run in all_runs((2, 5, 8)[:many], program.length):
                    names = program.names_in(run)
                    for one, other in itertools.product((2, 5, 8, 0), repeat=2):
                        right = one < other and one in names and other in names and names[one] == names[other]
                        self.assertIs(is_double(program, (run, one, other)), right)

    def test_values_near_a_double(self):
        run = Run((3, 9), (Round(((3, 9),)),))
        self.assertIs(is_double(TWO, (run, 3, 9)), True)
        near = [
            (run, 9, 3), (run, 3, 3), (run, 9, 9), (run, 3), (run, 3, 9, 9), [run, 3, 9], (3, 9, run), (run, (3, 9)), run,
            (run, "3", 9), (run, 3, "9"), (run, 3, None), (run, [3], 9), (run, 3, 10), (run, 0, 9), (run, 3, TOO_LONG),
            (run.rounds, 3, 9), (None, 3, 9), (str(run), 3, 9), (Run((3, 9), ()), 3, 9), (run.with_round(run[0]), 3, 9),
            (Run((3, 9), (Round(((3,), (9,))),)), 3, 9), (joint_run((3, 9, 10), 1), 3, 9), (Run((3,), (Round(((3,),)),)), 3, 3),
            {run.sign: run}, (), (run,), None, (run, 3, (9,)), (TWO, 3, 9),
        ]
        for value in near + odd_values():
            with self.subTest(value=value):
                self.assertIs(is_double(TWO, value), False)

    def test_true_is_no_thread(self):
        run = Run((0, 1), (TOGETHER,))
        self.assertIs(is_double(TWO, (run, 0, 1)), True)
        for value in ((run, False, 1), (run, 0, True), (run, False, True)):
            self.assertIs(is_double(TWO, value), False)

    def test_doubles_of_fewer_threads(self):
        program = mixed(4, 1, 1)
        for threads in ((4, 7), (1, 2, 3), (2, 3, 5, 7)):
            self.assertIs(is_double(program, (joint_run(threads, 1), threads[0], threads[1])), True)
        self.assertIs(is_double(program, (joint_run((1, 2, 3, 4, 5), 1), 1, 2)), False)


class AllDoublesTest(unittest.TestCase):
    def test_against_all_runs(self):
        for program in SMALL:
            for many in range(1, program.size + 1):
                threads = (0, 3, 4, 8, 9)[:many]
                right = [run for run in all_runs(threads, program.length)
                         if len(set(program.names_in(run).values())) < many]
                found = all_doubles(program, threads)
                self.assertIs(found.__class__, tuple)
                self.assertEqual(list(found), right)

    def test_more_threads_have_a_double_as_well(self):
        for program in some_programs():
            few = [many for many in range(1, program.size + 1) if all_doubles(program, (1, 2, 3, 4, 5)[:many])]
            self.assertEqual(few, list(range(few[0], program.size + 1)) if few else [])

    def test_wrong_threads(self):
        wrong = [(), (1, 0), (0, 0), [0, 1], (True,), (-1, 0), (0, 1, 2), (0, 1, 2, 3, 4, 5), (TOO_LONG,), 2, "01", APART]
        for threads in wrong + [one for one in odd_values() if one not in ((0,), (0, 1))]:
            with self.subTest(threads=threads):
                self.assertRaises(InvalidThreads, all_doubles, RANKS, threads)


class MeetingsTest(unittest.TestCase):
    def test_against_all_runs(self):
        for size, length in ((1, 0), (1, 4), (2, 0), (2, 1), (2, 3), (3, 0), (3, 1), (3, 2), (4, 1), (5, 0), (5, 1)):
            met = set()
            for many in range(1, size + 1):
                for run in all_runs(tuple(range(many)), length):
                    patterns = [plain_pattern(plain_view(run, one)) for one in run.threads]
                    met |= {tuple(sorted(pair)) for pair in itertools.combinations(patterns, 2)}
            self.assertEqual(all_meetings(size, length), tuple(sorted(met)))

    def test_one_round(self):
        # By point [10.1] any two different patterns of one round meet; equal ones never do.
        for size in range(1, 6):
            self.assertEqual(all_meetings(size, 1), tuple(itertools.combinations(all_patterns(size, 1), 2)))

    def test_a_program_is_good_exactly_if_no_meeting_has_two_equal_names(self):
        for program in some_programs():
            names = program.names
            equal = [pair for pair in all_meetings(program.size, program.length) if names[pair[0]] == names[pair[1]]]
            self.assertIs(is_good(program), not equal)

    def test_many_meetings(self):
        for size, length in ((2, 6), (3, 3), (4, 2)):
            met = all_meetings(size, length)
            self.assertEqual(met, tuple(sorted(set(met))))
            for one, other in met[::50]:
                self.assertLessEqual(one, other)

    def test_wrong_sizes_and_lengths(self):
        for size in odd_values() + [0, 6, -1, LONGEST]:
            for length in (0, 7, None):
                assert_given(self, InvalidNumber, "given", size, all_meetings, size, length)
        for length in odd_values() + [-1, 7, LONGEST]:
            for size in (1, 5):
                assert_given(self, InvalidNumber, "given", length, all_meetings, size, length)
        for size, length in ((3, 4), (4, 3), (5, 2), (5, 6)):
            assert_given(self, TooMany, "limit", 1200, all_meetings, size, length)


class ReachedTest(unittest.TestCase):
    def test_names_reached(self):
        for program in some_programs():
            reached = tuple(
                max(name for one, name in program.names.items() if len(plain_carrier(one)) <= many)
                for many in range(1, program.size + 1))
            self.assertEqual(names_reached(program), reached)
        self.assertEqual([names_reached(rank_program(size)) for size in (1, 3, 5)], [(1,), (1, 3, 6), (1, 3, 6, 10, 15)])


class NothingSharedTest(unittest.TestCase):
    def test_arguments_stay(self):
        for program in (RANKS, TWO, mixed(3, 1, 4)):
            for call in (is_good, found_double, names_reached):
                assert_untouched(self, call, program)
            assert_untouched(self, all_doubles, program, (0, 1))
            assert_untouched(self, is_double, program, [Run((0, 1), (BACK,)), 0, 1])
            assert_untouched(self, is_double, program, (Run((0, 1), (TOGETHER,)), 0, 1))
        assert_untouched(self, all_meetings, 3, 1)


if __name__ == "__main__":
    unittest.main()
