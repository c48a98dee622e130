"""Choice programs: points [12.1] to [12.3], and what their functions return and refuse."""

import itertools
import unittest

from fewnames.base.rounds import Round
from fewnames.base.runs import Run, all_runs, joint_run, lined_run
from fewnames.errors import InvalidNumber, InvalidProgram, InvalidRun, TooMany
from fewnames.make.makers import packed_program, rank_program, shrinking_program
from fewnames.programs.programs import Program, program_by
from fewnames.tasks.choices import (
    all_rainbows, choice_counts, choices_in, chosen_numbers, found_rainbow, greatest_choice, is_choice, is_election,
    least_choice, own_choice, rainbow_sum, rule_choice)
from fewnames.views.views import all_patterns
from tests.samples import (
    LONGEST, RANKS, TOO_LONG, assert_given, assert_untouched, odd_values, plain_carrier, plain_pattern, plain_view,
    some_programs)

NO_PROGRAMS = [one for one in odd_values() if not isinstance(one, Program)] + [0, RANKS.names]
NO_CHOICES = NO_PROGRAMS + [RANKS, rank_program(3), shrinking_program(2), program_by(1, 0, lambda one: 2)]
SHAPES = [(1, 0), (1, 3), (2, 0), (2, 1), (2, 2), (2, 3), (3, 0), (3, 1), (3, 2), (4, 1), (5, 0), (5, 1)]
OF_MANY = (choice_counts, rainbow_sum, all_rainbows, chosen_numbers)


def wild(size, length, seed):
    """A choice program in which the choices come in no order."""
    ranks = iter(range(seed, 10 ** 9))
    return rule_choice(size, length, lambda one: next(ranks) ** 2 // 3 * (seed + 2) % len(plain_carrier(one)))


def some_choices():
    """Choice programs of many shapes."""
    for size, length in SHAPES:
        yield from (own_choice(size, length), least_choice(size, length), greatest_choice(size, length))
        yield from (wild(size, length, seed) for seed in range(4))


def plain_choices(program, run):
    """Whom the threads choose, by the words of the document."""
    found = {}
    for thread in run.threads:
        view = plain_view(run, thread)
        found[thread] = plain_carrier(view)[program.names[plain_pattern(view)] - 1]
    return found


def plain_rows(program, many):
    """For all runs of the threads 0, 1, .. the run and the row of choices."""
    return [(run, tuple(plain_choices(program, run).values())) for run in all_runs(tuple(range(many)), program.length)]


def row_sign(row):
    return (-1) ** sum(one > other for one, other in itertools.combinations(row, 2))


class ChoiceTest(unittest.TestCase):
    def test_choice_programs_and_others(self):
        for program in some_choices():
            self.assertIs(is_choice(program), True)
        for program in some_programs():
            most = all(name <= len(plain_carrier(pattern)) for pattern, name in program.names.items())
            self.assertIs(is_choice(program), most)
        self.assertIs(is_choice(RANKS), False)
        self.assertIs(is_choice(RANKS.mapped({1: 1, 2: 2, 3: 2})), True)
        self.assertIs(is_choice(RANKS.mapped({1: 2, 2: 1, 3: 1})), False)

    def test_one_name_too_great(self):
        for size, length in ((2, 1), (3, 1), (2, 2)):
            program = greatest_choice(size, length)
            for pattern in program.names:
                self.assertIs(is_choice(program.with_name(pattern, len(plain_carrier(pattern)) + 1)), False)
                self.assertIs(is_choice(program.with_name(pattern, 1)), True)

    def test_no_program(self):
        for program in NO_PROGRAMS:
            self.assertRaises(InvalidProgram, is_choice, program)


class ChoicesInTest(unittest.TestCase):
    def test_by_hand(self):
        run = Run((2, 5, 8), (Round(((5,), (2, 8))),))
        self.assertEqual(choices_in(own_choice(3, 1), run), {2: 2, 5: 5, 8: 8})
        self.assertEqual(choices_in(least_choice(3, 1), run), {2: 2, 5: 5, 8: 2})
        self.assertEqual(choices_in(greatest_choice(3, 1), run), {2: 8, 5: 5, 8: 8})
        middle = rule_choice(5, 1, lambda one: 1 if len(plain_carrier(one)) > 2 else 0)
        self.assertEqual(choices_in(middle, run), {2: 5, 5: 5, 8: 5})

    def test_against_the_words(self):
        for program in some_choices():
            if program.size < 4:
                for many in range(1, program.size + 1):
                    for run in all_runs((1, 10 ** 20, LONGEST)[:many], program.length):
                        found = choices_in(program, run)
                        self.assertEqual(list(found.items()), list(plain_choices(program, run).items()))

    def test_one_chooses_whom_it_knows(self):
        for program in (wild(3, 2, 3), wild(5, 1, 4)):
            for run in itertools.islice(all_runs(tuple(range(program.size)), program.length), 0, None, 3):
                for thread, chosen in choices_in(program, run).items():
                    self.assertIn(chosen, run.known(thread))

    def test_no_choice_program(self):
        for program in NO_CHOICES:
            for run in (joint_run((0, 1), 1), None):
                self.assertRaises(InvalidProgram, choices_in, program, run)

    def test_no_run_for_it(self):
        program = least_choice(2, 1)
        for run in [0, joint_run((0, 1), 0), joint_run((0, 1), 2), joint_run((0, 1, 2), 1)] + [
                one for one in odd_values() if not isinstance(one, Run)]:
            self.assertRaises(InvalidRun, choices_in, program, run)


class CountsTest(unittest.TestCase):
    def test_against_all_runs(self):
        for program in some_choices():
            for many in range(1, program.size + 1):
                rows = plain_rows(program, many)
                counts = {}
                for run, row in rows:
                    counts[row] = counts.get(row, 0) + run.sign
                counts = {row: counts[row] for row in sorted(counts) if counts[row]}
                self.assertEqual(list(choice_counts(program, many).items()), list(counts.items()))
                rainbows = [run for run, row in rows if len(set(row)) == many]
                self.assertEqual(rainbow_sum(program, many), sum(
                    run.sign * row_sign(row) for run, row in rows if len(set(row)) == many))
                self.assertEqual(all_rainbows(program, many), tuple(rainbows))
                numbers = [len(set(row)) for _, row in rows]
                self.assertEqual(
                    list(chosen_numbers(program, many).items()), [(one, numbers.count(one)) for one in sorted(set(numbers))])

    def test_the_sum_over_the_rainbows_is_1(self):
        for size, length in SHAPES + [(4, 2), (3, 3), (2, 6), (2, 5)]:
            for program in (wild(size, length, 9), least_choice(size, length), wild(size, length, 31)):
                self.assertEqual([rainbow_sum(program, many) for many in range(1, size + 1)], [1] * size)

    def test_all_choice_programs_for_two_threads_and_one_round(self):
        for names in itertools.product((1, 2), repeat=2):
            program = Program(2, 1, dict(zip(all_patterns(2, 1), (1,) + names)))
            self.assertEqual(rainbow_sum(program, 2), 1)
            self.assertEqual(sum(choice_counts(program, 2).values()), 1)
        for names in itertools.product((1, 2), (1, 2), (1, 2, 3), (1, 2, 3), (1, 2, 3)):
            program = Program(3, 1, {pattern: 1 for pattern in all_patterns(3, 1)})
            larger = [pattern for pattern in all_patterns(3, 1) if len(plain_carrier(pattern)) > 1]
            for pattern, name in zip(sorted(larger, key=lambda one: len(plain_carrier(one))), names):
                program = program.with_name(pattern, name)
            self.assertEqual(rainbow_sum(program, 3), 1)
            self.assertIn(3, chosen_numbers(program, 3))

    def test_found_rainbows(self):
        for program in some_choices():
            found = found_rainbow(program)
            self.assertEqual(found.threads, tuple(range(program.size)))
            self.assertIn(found, all_rainbows(program, program.size))
            self.assertEqual(len(set(choices_in(program, found).values())), program.size)

    def test_lengthened_narrowed_mirrored(self):
        for program in (wild(3, 1, 2), wild(2, 2, 5), greatest_choice(3, 1)):
            longer = program.lengthened()
            for many in range(1, program.size + 1):
                self.assertEqual(choice_counts(program.for_fewer(many), many), choice_counts(program, many))
                # Behind the round more a thread knows of others, so it may choose others; still there are rainbows.
                self.assertEqual([rainbow_sum(one, many) for one in (longer, program.mirrored())], [1, 1])
            self.assertEqual([is_choice(longer), is_choice(program.mirrored())], [True, True])

    def test_no_choice_program(self):
        for program in NO_CHOICES:
            for call in OF_MANY:
                for many in (1, 0, None):
                    self.assertRaises(InvalidProgram, call, program, many)
            for call in (found_rainbow, is_election):
                self.assertRaises(InvalidProgram, call, program)

    def test_wrong_numbers(self):
        for program in (least_choice(2, 1), least_choice(5, 0)):
            for many in [0, program.size + 1, -1, LONGEST] + odd_values():
                for call in OF_MANY:
                    assert_given(self, InvalidNumber, "given", many, call, program, many)

    def test_arguments_stay(self):
        for call in OF_MANY:
            assert_untouched(self, call, wild(3, 1, 6), 3)


class ElectionTest(unittest.TestCase):
    def test_against_all_runs(self):
        for program in some_choices():
            election = True
            for many in range(1, program.size + 1):
                for run, row in plain_rows(program, many):
                    election = election and all(row[chosen] == chosen for chosen in row)
            self.assertIs(is_election(program), election)

    def test_by_hand(self):
        for size, length in SHAPES:
            self.assertIs(is_election(own_choice(size, length)), True)
            # With two rounds 2 can know of 1 alone, while 1 comes to know of 0.
            self.assertIs(is_election(least_choice(size, length)), size < 3 or length < 2)


class MadeTest(unittest.TestCase):
    def test_names(self):
        for size, length in SHAPES:
            patterns = all_patterns(size, length)
            self.assertEqual(own_choice(size, length).names, {one: one[0] + 1 for one in patterns})
            self.assertEqual(least_choice(size, length).names, {one: 1 for one in patterns})
            self.assertEqual(greatest_choice(size, length).names, {one: len(plain_carrier(one)) for one in patterns})

    def test_all_choose_so(self):
        for size, length in ((1, 2), (2, 2), (3, 2), (4, 1), (5, 1)):
            threads = (3, 4, 10 ** 9, 10 ** 50, LONGEST)[:size]
            own, least, greatest = own_choice(size, length), least_choice(size, length), greatest_choice(size, length)
            for run in all_runs(threads, length):
                self.assertEqual(choices_in(own, run), {one: one for one in threads})
                self.assertEqual(choices_in(least, run), {one: min(run.known(one)) for one in threads})
                self.assertEqual(choices_in(greatest, run), {one: max(run.known(one)) for one in threads})

    def test_the_rule_is_called_once_for_each_pattern(self):
        for size, length in SHAPES:
            asked = []
            rule_choice(size, length, lambda one: asked.append(one) or 0)
            self.assertEqual(tuple(asked), all_patterns(size, length))

    def test_the_rule_is_refused_at_once(self):
        patterns = all_patterns(3, 1)
        for at, pattern in enumerate(patterns):
            for wrong in [-1, len(plain_carrier(pattern)), 5, LONGEST, "0", (0,), TOO_LONG] + odd_values():
                asked = []
                with self.assertRaises(InvalidProgram):
                    rule_choice(3, 1, lambda one: asked.append(one) or (wrong if len(asked) == at + 1 else 0))
                self.assertEqual(tuple(asked), patterns[:at + 1])
            last = rule_choice(3, 1, lambda one: len(plain_carrier(one)) - 1 if one == pattern else 0)
            self.assertEqual(last.name_of(pattern), len(plain_carrier(pattern)))

    def test_wrong_sizes_and_lengths(self):
        for call in (own_choice, least_choice, greatest_choice, lambda size, length: rule_choice(size, length, None)):
            for size in [0, 6, -1, LONGEST] + odd_values():
                for length in (1, None, 7):
                    assert_given(self, InvalidNumber, "given", size, call, size, length)
            for length in [-1, 7, LONGEST] + odd_values():
                assert_given(self, InvalidNumber, "given", length, call, 5, length)
            for size, length in ((3, 4), (4, 3), (5, 2), (5, 6)):
                assert_given(self, TooMany, "limit", 1200, call, size, length)

    def test_the_largest_ones(self):
        for size, length in ((2, 6), (3, 3), (4, 2), (5, 1), (1, 6)):
            program = own_choice(size, length)
            self.assertEqual(choice_counts(program, size), {tuple(range(size)): 1})
            self.assertIs(is_election(program), True)
            self.assertEqual(found_rainbow(program), lined_run(tuple(range(size)), length))
            self.assertEqual(packed_program(program), program)


if __name__ == "__main__":
    unittest.main()
