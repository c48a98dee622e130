"""Programs that are made: points [10.1] to [10.3], and what their functions return and refuse."""

import copy
import itertools
import unittest

from fewnames.base.rounds import Round
from fewnames.base.runs import Run, all_runs, joint_run, lined_run
from fewnames.errors import InvalidNumber, InvalidOperation, InvalidProgram, InvalidRun, TooMany
from fewnames.make.makers import combined_program, packed_program, rank_program, shrinking_program, shrunk_names
from fewnames.programs.checks import all_meetings, is_good, names_reached
from fewnames.programs.programs import Program, program_by
from fewnames.views.views import all_patterns, run_with, view_of, views_of
from tests.samples import (
    APART, BACK, LONGEST, RANKS, TOGETHER, assert_given, assert_untouched, mixed, odd_values, plain_pattern,
    plain_shrunk_names, plain_view, some_programs, some_runs)

GREAT = (0, 10 ** 20, 10 ** 40, 10 ** 59, LONGEST)
NO_PROGRAMS = [one for one in odd_values() if not isinstance(one, Program)] + [0, RANKS.names]
NO_RUNS = [one for one in odd_values() if not isinstance(one, Run)] + [0]
NO_NEW_NAMES = [0, 100, -1, LONGEST, "1", 10 ** 60, True, False, None, (1,), [1], RANKS]


def row(*texts):
    """A run of the threads 0, 1, .. by the texts of its rounds."""
    rounds = tuple(Round(tuple(tuple(int(one) for one in block.split()) for block in text.split("|"))) for text in texts)
    return Run(rounds[0].threads, rounds)


class RankTest(unittest.TestCase):
    def test_by_hand(self):
        self.assertEqual(rank_program(1).names, {(0, (((0, (0,)),),)): 1})
        self.assertEqual(RANKS.names, {(0, (((0, (0,)),),)): 1, (0, (((0, (0, 1)),),)): 2, (1, (((1, (0, 1)),),)): 3})
        run = row("3|0 4|1|2")
        self.assertEqual(rank_program(5).names_in(run), {0: 4, 1: 8, 2: 13, 3: 1, 4: 6})

    def test_against_the_words(self):
        for size in range(1, 6):
            made = rank_program(size)
            self.assertEqual([made.size, made.length], [size, 1])
            self.assertEqual(made.told, tuple(range(1, size * (size + 1) // 2 + 1)))
            for run in all_runs(GREAT[:size], 1):
                for thread, name in made.names_in(run).items():
                    seen = run[0].sees(thread)
                    less = [one for one in seen if one < thread]
                    self.assertEqual(name, len(seen) * (len(seen) - 1) // 2 + len(less) + 1)

    def test_they_are_good(self):
        for size in range(1, 6):
            self.assertIs(is_good(rank_program(size)), True)

    def test_fewer_and_more_threads(self):
        for size in range(1, 6):
            for fewer in range(1, size + 1):
                self.assertEqual(rank_program(size).for_fewer(fewer), rank_program(fewer))
            self.assertEqual(names_reached(rank_program(size)), tuple(many * (many + 1) // 2 for many in range(1, size + 1)))

    def test_wrong_sizes(self):
        for size in [0, 6, -1, LONGEST] + odd_values():
            assert_given(self, InvalidNumber, "given", size, rank_program, size)

    def test_two_patterns_of_one_round_always_meet(self):
        for size in range(1, 6):
            meetings = all_meetings(size, 1)
            for pair in itertools.combinations(all_patterns(size, 1), 2):
                self.assertIn(pair, meetings)

    def test_no_good_program_of_one_round_with_fewer_names(self):
        for size in range(2, 6):
            good = rank_program(size)
            for one, other in itertools.combinations(good.told, 2):
                self.assertIs(is_good(good.mapped({name: one if name == other else name for name in good.told})), False)
        # Three unlike names are needed for the three patterns of two threads.
        for names in itertools.product(range(1, 6), repeat=3):
            self.assertIs(is_good(Program(2, 1, dict(zip(all_patterns(2, 1), names)))), len(set(names)) == 3)


class ShrunkTest(unittest.TestCase):
    def test_by_hand(self):
        for names, run in (
                ({0: 1}, Run((0,), ())),
                ({0: 1}, joint_run((0,), 6)),
                ({0: 1, 1: 3}, row("0|1")), ({0: 2, 1: 1}, row("1|0")), ({0: 2, 1: 3}, row("0 1")),
                # 2 sees three and takes 5; 0 and 1 go on from 4 down: 1 takes 4 - 2, 0 is left with 2 + 1.
                ({0: 3, 1: 2, 2: 5}, row("0 1 2", "0 1 2")),
                ({0: 4, 1: 2, 2: 5}, row("0 1 2", "0|1 2")),
                ({0: 3, 1: 4, 2: 5}, row("0 1 2", "1|0|2")),
                ({0: 2, 1: 3, 2: 5}, row("0 1|2", "2|0 1")),
                # 2 sees itself alone; 1 sees three, but it is not the greatest of them.
                ({0: 3, 1: 2, 2: 1}, row("2|0 1", "0 1 2")),
                ({0: 2, 1: 4, 2: 1}, row("2|0|1", "0|1|2")),
                ({0: 2, 1: 4, 2: 1}, row("2|0|1", "1|2|0")),
                ({0: 4, 1: 5, 2: 2, 3: 7}, row(*["0 1 2 3"] * 3)),
                ({0: 6, 1: 4, 2: 2, 3: 7}, row("0 1 2 3", "0|1|2|3", "3|2|1|0")),
        ):
            with self.subTest(str(run)):
                self.assertEqual(shrunk_names(run), names)
                self.assertEqual(plain_shrunk_names(run), names)

    def test_against_the_words(self):
        runs = [run for size, length in ((1, 0), (1, 2), (2, 1), (2, 3), (3, 2)) for run in all_runs((0, 1, 2)[:size], length)]
        runs += some_runs((0, 1, 2), 4, 13) + some_runs((0, 1, 2, 3), 3, 401) + some_runs(GREAT, 4, 541 ** 4 // 300)
        for run in runs:
            self.assertEqual(shrunk_names(run), plain_shrunk_names(run))

    def test_unlike_names_to_twice_the_threads_less_one(self):
        for threads, length, step in (((2,), 0, 1), ((1, 5), 1, 1), ((1, 5, 8), 2, 1), ((0, 1, 2), 3, 7), ((3, 5, 7, 8), 3, 211)):
            for run in some_runs(threads, length, step):
                names = shrunk_names(run)
                self.assertEqual(tuple(names), threads)
                self.assertEqual(len(set(names.values())), len(threads))
                self.assertLessEqual(max(names.values()), 2 * len(threads) - 1)
                self.assertGreaterEqual(min(names.values()), 1)

    def test_five_threads_with_great_old_names(self):
        orders = [GREAT, GREAT[::-1], GREAT[2:] + GREAT[:2]]
        lines = [lined_run(order, 1)[0] for order in orders] + [Round((GREAT[1:4], GREAT[:1], GREAT[4:])), Round((GREAT,))]
        for rounds in itertools.product(lines, repeat=4):
            run = Run(GREAT, rounds)
            self.assertEqual(shrunk_names(run), plain_shrunk_names(run))
            self.assertEqual(len(set(shrunk_names(run).values())), 5)
            self.assertLessEqual(max(shrunk_names(run).values()), 9)

    def test_further_rounds_change_nothing(self):
        for run in some_runs((0, 1, 2), 2, 5):
            for more in (Round(((0,), (1,), (2,))), Round(((0, 1, 2),)), Round(((2,), (0, 1)))):
                longer = run
                while len(longer) < 6:
                    longer = longer.with_round(more)
                    self.assertEqual(shrunk_names(longer), shrunk_names(run))
        for run in some_runs((0, 1, 2, 3), 4, 75 ** 4 // 50):
            self.assertEqual(shrunk_names(run), shrunk_names(run.shortened(3)))

    def test_by_views_alone(self):
        for threads, length, step in (
                ((0, 1, 2), 2, 1), ((0, 1, 2), 4, 97), ((1, 3, 5, 7), 3, 2003), ((2, 4, 5, 6), 6, 75 ** 6 // 99 + 8)):
            for run in some_runs(threads, length, step):
                names = shrunk_names(run)
                for thread in threads:
                    # Among those whom the thread knows, whatever the others do.
                    self.assertEqual(shrunk_names(run_with(view_of(run, thread)))[thread], names[thread])

    def test_fewer_threads_do_the_same_as_if_the_others_came_last(self):
        for run in some_runs((1, 4, 6), 3, 37):
            later = Run((1, 4, 6, 7), tuple(Round(given.blocks + ((7,),)) for given in run.rounds))
            self.assertEqual({one: shrunk_names(later)[one] for one in (1, 4, 6)}, shrunk_names(run))

    def test_only_the_order_of_the_threads_counts(self):
        for run in some_runs((0, 1, 2), 2, 3):
            far = run.renamed({0: 5, 1: 10 ** 30, 2: LONGEST})
            self.assertEqual(list(shrunk_names(far).values()), list(shrunk_names(run).values()))

    def test_no_run(self):
        for run in NO_RUNS:
            self.assertRaises(InvalidRun, shrunk_names, run)

    def test_too_few_rounds(self):
        for size in range(2, 6):
            for length in range(size - 1):
                self.assertRaises(InvalidOperation, shrunk_names, joint_run(GREAT[:size], length))
            self.assertEqual(len(shrunk_names(joint_run(GREAT[:size], size - 1))), size)


class ShrinkingProgramTest(unittest.TestCase):
    def test_in_all_runs(self):
        for size in (1, 2, 3):
            made = shrinking_program(size)
            self.assertEqual([made.size, made.length], [size, size - 1])
            for many in range(1, size + 1):
                for run in all_runs((3, 5, 9)[:many], size - 1):
                    self.assertEqual(made.names_in(run), plain_shrunk_names(run))

    def test_they_are_good_with_names_to_twice_the_size_less_one(self):
        for size in (1, 2, 3):
            made = shrinking_program(size)
            self.assertIs(is_good(made), True)
            self.assertEqual(made.told, tuple(range(1, 2 * size)))
            self.assertEqual(names_reached(made), tuple(2 * many - 1 for many in range(1, size + 1)))

    def test_two_threads(self):
        self.assertEqual(shrinking_program(2), RANKS)
        self.assertEqual(shrinking_program(1).names, {(0, ()): 1})
        self.assertEqual(shrinking_program(3).for_fewer(2), shrinking_program(2).lengthened())

    def test_wrong_sizes(self):
        for size in [0, 4, 5, 6, -1, LONGEST] + odd_values():
            assert_given(self, InvalidNumber, "given", size, shrinking_program, size)


class PackedTest(unittest.TestCase):
    def test_in_their_order(self):
        for program in some_programs():
            packed = assert_untouched(self, packed_program, program)
            self.assertEqual(packed.told, tuple(range(1, len(program.told) + 1)))
            for pattern, name in program.names.items():
                self.assertEqual(program.told[packed.name_of(pattern) - 1], name)
            self.assertIs(is_good(packed), is_good(program))
            self.assertEqual(packed_program(packed), packed)

    def test_no_program(self):
        for program in NO_PROGRAMS:
            self.assertRaises(InvalidProgram, packed_program, program)


def all_pairs(one, other):
    """A dict with all pairs of new names, which have unlike names as long as there are at most 99."""
    return {pair: at % 99 + 1 for at, pair in enumerate(itertools.product(one.told, other.told))}


class CombinedTest(unittest.TestCase):
    def test_in_all_runs(self):
        for size, first, last in ((1, 0, 0), (1, 2, 4), (2, 0, 1), (2, 1, 0), (2, 1, 1), (2, 2, 1), (3, 1, 1), (3, 0, 2), (3, 2, 0)):
            one, other = mixed(size, first, 7), mixed(size, last, 5)
            names = all_pairs(one, other)
            made = assert_untouched(self, combined_program, one, other, names)
            self.assertEqual([made.size, made.length], [size, first + last])
            for many in range(1, size + 1):
                for run in all_runs((2, 6, 7)[:many], first + last):
                    early = one.names_in(run.shortened(first))
                    late = other.names_in(Run(run.threads, run.rounds[first:]))
                    self.assertEqual(made.names_in(run), {each: names[early[each], late[each]] for each in run.threads})

    def test_by_views_of_some_large_ones(self):
        for one, other in ((mixed(4, 1, 9), mixed(4, 1, 11)), (mixed(2, 3, 9), mixed(2, 3, 11)), (mixed(5, 1, 9), mixed(5, 0, 2))):
            made = combined_program(one, other, all_pairs(one, other))
            for pattern in all_patterns(made.size, made.length):
                run = run_with(pattern)
                early = one.name_of(plain_view(run.shortened(one.length), pattern[0]))
                late = other.name_of(plain_view(Run(run.threads, run.rounds[one.length:]), pattern[0]))
                self.assertEqual(made.name_of(pattern), all_pairs(one, other)[early, late])

    def test_good_and_not_good_ones(self):
        bad = RANKS.mapped({1: 1, 2: 2, 3: 2})
        for one, other, good in ((RANKS, RANKS, True), (RANKS, bad, True), (bad, RANKS, True), (bad, bad, False)):
            self.assertIs(is_good(combined_program(one, other, all_pairs(one, other))), good)
        for size in (2, 3, 4):
            good = rank_program(size)
            for other in (mixed(size, 1, 2), mixed(size, 0, 1)):
                self.assertIs(is_good(combined_program(good, other, all_pairs(good, other))), True)
                self.assertIs(is_good(combined_program(other, good, all_pairs(other, good))), True)
                self.assertIs(is_good(combined_program(other, other, all_pairs(other, other))), False)

    def test_equal_names_for_unlike_pairs(self):
        names = dict.fromkeys(itertools.product((1, 2, 3), repeat=2), 4)
        made = combined_program(RANKS, RANKS, names)
        self.assertEqual([made.told, is_good(made)], [(4,), False])
        first = {pair: pair[0] for pair in names}
        self.assertEqual(combined_program(RANKS, RANKS, first), RANKS.lengthened())

    def test_with_a_program_of_no_round(self):
        still = program_by(2, 0, lambda one: 9)
        self.assertEqual(combined_program(RANKS, still, {(1, 9): 1, (2, 9): 2, (3, 9): 3}), RANKS)
        self.assertEqual(combined_program(still, RANKS, {(9, 3): 3, (9, 2): 2, (9, 1): 1}), RANKS)
        self.assertEqual(combined_program(still, still, {(9, 9): 5}).names, {(0, ()): 5})

    def test_the_order_of_the_dict_has_no_effect(self):
        names = all_pairs(RANKS, RANKS)
        back = {pair: names[pair] for pair in reversed(names)}
        self.assertEqual(combined_program(RANKS, RANKS, back), combined_program(RANKS, RANKS, names))

    def test_pairs_that_never_come_need_not_be_told(self):
        coming = {pair for run in all_runs((0, 1), 2) for pair in zip(
            RANKS.names_in(run.shortened(1)).values(), RANKS.names_in(Run((0, 1), run.rounds[1:])).values())}
        coming |= {(1, 1)}
        names = {pair: name for pair, name in all_pairs(RANKS, RANKS).items() if pair in coming}
        made = combined_program(RANKS, RANKS, names)
        self.assertEqual(made, combined_program(RANKS, RANKS, {**names, (99, 99): 99, (1, 50): 2}))
        # A thread that stays alone in all rounds comes with (1, 1).
        for pair in names:
            less = {one: name for one, name in names.items() if one != pair}
            self.assertRaises(InvalidOperation, combined_program, RANKS, RANKS, less)
        alone = rank_program(3)
        other = program_by(3, 0, lambda one: 1)
        self.assertEqual(
            combined_program(other, alone, {(1, name): name for name in alone.told}), alone)

    def test_no_programs(self):
        wrong = {(0, 1): 1}
        for program in NO_PROGRAMS:
            for other in (RANKS, None, rank_program(3)):
                for names in (all_pairs(RANKS, RANKS), wrong, None):
                    self.assertRaises(InvalidProgram, combined_program, program, other, names)
            for names in (all_pairs(RANKS, RANKS), wrong, None):
                self.assertRaises(InvalidProgram, combined_program, RANKS, program, names)

    def test_unlike_sizes(self):
        for one, other in itertools.permutations([rank_program(size) for size in range(1, 6)], 2):
            for names in (all_pairs(one, other), {}, None):
                self.assertRaises(InvalidProgram, combined_program, one, other, names)

    def test_no_dict_of_pairs(self):
        right = all_pairs(RANKS, RANKS)
        wrong = [{**right, (1, 1): name} for name in NO_NEW_NAMES]
        wrong += [{**right, key: 1} for key in (
            1, (), (1,), (1, 1, 1), (0, 1), (1, 0), (1, 100), (100, 1), (1, None), "11", None, (1, "1"), ((1, 1), 1),
            (1, (1,)), (-1, 1), (10 ** 60, 1))]
        less = {pair: name for pair, name in right.items() if pair != (1, 1)}
        wrong += [{**less, (True, 1): 1}, {**less, (1, True): 1}, {**less, (True, True): 1}]
        wrong += [one for one in odd_values() if one != {}] + [list(right.items()), tuple(right)]
        for names in wrong:
            with self.subTest(names=names):
                self.assertRaises(InvalidOperation, combined_program, RANKS, RANKS, names)

    def test_too_many_rounds_and_patterns(self):
        names = {(1, 1): 1}
        for size, first, last, limit in ((1, 6, 1, 6), (2, 4, 3, 6), (3, 3, 1, 1200), (4, 1, 2, 1200), (4, 2, 2, 1200), (5, 1, 1, 1200)):
            one, other = mixed(size, first, 1), mixed(size, last, 1)
            for told in (names, {}, {(1, 2): 1}):
                assert_given(self, TooMany, "limit", limit, combined_program, one, other, told)
            self.assertRaises(InvalidOperation, combined_program, one, other, {(1, 1): 0})
        six = mixed(3, 3, 1)
        self.assertEqual(len(combined_program(mixed(2, 3, 1), mixed(2, 3, 1), names)), 729)
        self.assertEqual(len(combined_program(mixed(1, 3, 1), mixed(1, 3, 1), names)), 1)
        assert_given(self, TooMany, "limit", 1200, combined_program, six, six, names)
        assert_given(self, TooMany, "limit", 6, combined_program, mixed(2, 6, 1), mixed(2, 6, 1), names)

    def test_a_pair_that_comes_is_not_told(self):
        for names in ({}, {(1, 1): 1}, {(99, 99): 1}):
            self.assertRaises(InvalidOperation, combined_program, RANKS, RANKS, names)

    def test_combined_ones_keep_what_is_said_of_all(self):
        one = combined_program(shrinking_program(3), rank_program(3).for_fewer(3), {
            pair: pair[0] for pair in itertools.product(range(1, 6), range(1, 7))})
        self.assertEqual(one, shrinking_program(3).lengthened())
        self.assertIs(is_good(one.mirrored()), True)
        self.assertEqual(one.greatest, 5)


class PatternsTest(unittest.TestCase):
    def test_each_pattern_of_a_made_program_comes_up(self):
        for program in (rank_program(3), shrinking_program(3)):
            found = {plain_pattern(view) for run in all_runs((0, 1, 2), program.length) for view in views_of(run)}
            self.assertEqual(found, set(program.names))

    def test_nothing_is_shared(self):
        before = copy.deepcopy(RANKS.names)
        shrunk_names(Run((0, 1), (APART, BACK, TOGETHER)))[0] = 7
        RANKS.names.clear()
        self.assertEqual([rank_program(2).names, RANKS.names], [before, before])


if __name__ == "__main__":
    unittest.main()
