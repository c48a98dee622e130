"""The examples of the document, as they stand there."""

import unittest

from fewnames.base.rounds import Round, all_rounds, round_count
from fewnames.base.runs import Run, all_runs, joint_run, lined_run, run_count
from fewnames.counts.binomials import (
    allowed_marks, binomial, common_factor, is_barred, is_barred_paper, is_free_paper, least_free, prime_base)
from fewnames.counts.counts import (
    count_of, family_of, is_family, opened_at, rearranged, signed_counts)
from fewnames.counts.marks import (
    all_marked, forced_double, forced_run, is_forced_paper, is_triangle, mark_counts, marked_threads, reached_marks,
    triangle_from, triangle_of)
from fewnames.desk.desk import Desk
from fewnames.make.makers import packed_program, rank_program, shrinking_program, shrunk_names
from fewnames.make.tables import Table
from fewnames.programs.checks import (
    all_doubles, all_meetings, found_double, is_double, is_good, names_reached)
from fewnames.programs.programs import program_by
from fewnames.tasks.choices import (
    choice_counts, choices_in, chosen_numbers, found_rainbow, greatest_choice, is_choice, is_election, least_choice,
    own_choice, rainbow_sum)
from fewnames.tasks.wishes import (
    fitting_triangle, is_fulfilled, is_open, is_shut_paper, names_wish, pair_program, reached_wish)
from fewnames.text.shell import Shell
from fewnames.text.texts import read_group, read_program, read_run, write_program, write_run
from fewnames.views.partners import (
    chain_between, is_chain, last_seen, neighbors_of, partner_of, same_views, signed_sum)
from fewnames.views.views import (
    all_patterns, carrier_of, is_view, pattern_count, pattern_of, run_with, view_of)
from tests.samples import APART, BACK, RANKS, TOGETHER


class ExamplesTest(unittest.TestCase):
    def test_stage_1_first(self):
        self.assertEqual(
            [Round(((2,), (0, 1))).sees(0), Round(((2,), (0, 1))).sign, str(APART.moved(0)), str(TOGETHER.moved(1)),
             TOGETHER.sees(1), APART.is_seen(1)],
            [(0, 1, 2), -1, '0 1', '1|0', (0, 1), False])

    def test_stage_1_second(self):
        self.assertEqual(
            [[str(one) for one in all_rounds((3, 7))], round_count(4), str(Round(((2,), (0, 1))).without(2)),
             APART.renamed({0: 9, 1: 4}).blocks],
            [['3|7', '3 7', '7|3'], 75, '0 1', ((9,), (4,))])

    def test_stage_2_first(self):
        run = Run((0, 1), (APART, BACK))
        self.assertEqual(
            [run.sign, run.known(0), run.is_hidden(1), str(run), str(run.without(0)), str(run.shortened(1)),
             len(run.with_round(TOGETHER))],
            [1, (0, 1), False, 'run of 2 threads: 0|1, 1|0', 'run of 1 threads: 1, 1', 'run of 2 threads: 0|1', 3])

    def test_stage_2_second(self):
        self.assertEqual(
            [run_count(3, 2), sum([one.sign for one in all_runs((0, 1, 2), 2)]), lined_run((2, 0), 1)[0].blocks,
             joint_run((0, 1, 2), 3).sign],
            [169, 1, ((2,), (0,)), 1])

    def test_stage_3_first(self):
        self.assertEqual(
            [view_of(Run((0, 1), (APART,)), 1), carrier_of(view_of(Run((0, 1), (APART, BACK)), 0))],
            [(1, (((1, (0, 1)),),)), (0, 1)])
        self.assertEqual(
            view_of(Run((0, 1), (APART, BACK)), 0),
            (0, (((0, (0, 1)),), ((0, (0,)), (1, (0, 1))))))

    def test_stage_3_second(self):
        self.assertEqual(
            [pattern_of((7, (((7, (4, 7)),),))), all_patterns(2, 1), pattern_count(3, 2), is_view((0, (((0, (1,)),),))),
             view_of(run_with((0, (((0, (0, 2)),),))), 0)],
            [(1, (((1, (0, 1)),),)), ((0, (((0, (0,)),),)), (0, (((0, (0, 1)),),)), (1, (((1, (0, 1)),),))), 81, False,
             (0, (((0, (0, 2)),),))])

    def test_stage_4_first(self):
        self.assertEqual(
            [str(partner_of(Run((0, 1), (APART,)), 0)), partner_of(Run((0, 1), (APART,)), 1),
             str(partner_of(Run((0, 1), (BACK, APART)), 1)), last_seen(Run((0, 1), (BACK, APART)), 1)],
            ['run of 2 threads: 0 1', None, 'run of 2 threads: 0 1, 0|1', 0])

    def test_stage_4_second(self):
        self.assertEqual(
            [is_chain(chain_between(Run((0, 1), (APART,)), Run((0, 1), (BACK,)))),
             same_views(Run((0, 1), (APART,)), Run((0, 1), (TOGETHER,))), signed_sum(Run((0, 1), (APART,)), 1),
             list(neighbors_of(joint_run((0, 1, 2), 2)))],
            [True, (1,), 1, [0, 1, 2]])

    def test_stage_5_first(self):
        self.assertEqual(
            [RANKS.names, RANKS.name_of((7, (((7, (4, 7)),),))), RANKS.names_in(Run((5, 8), (Round(((8,), (5,))),))),
             RANKS.told, str(RANKS)],
            [{(0, (((0, (0,)),),)): 1, (0, (((0, (0, 1)),),)): 2, (1, (((1, (0, 1)),),)): 3}, 3, {5: 2, 8: 1}, (1, 2, 3),
             'program for 2 threads, 1 rounds: 3 patterns, names to 3'])

    def test_stage_5_second(self):
        self.assertEqual(
            [RANKS.mirrored().names_in(Run((0, 1), (TOGETHER,))), len(RANKS.lengthened()), RANKS.for_fewer(1).names,
             program_by(2, 0, lambda one: 4).names, RANKS.mapped({1: 1, 2: 2, 3: 2}).greatest],
            [{0: 3, 1: 2}, 9, {(0, (((0, (0,)),),)): 1}, {(0, ()): 4}, 2])

    def test_stage_6_first(self):
        self.assertEqual(
            [is_good(RANKS), found_double(RANKS), names_reached(RANKS), all_meetings(2, 0), len(all_meetings(2, 1)),
             is_good(RANKS.mapped({1: 1, 2: 2, 3: 2}))],
            [True, None, (1, 3), (((0, ()), (0, ())),), 3, False])

    def test_stage_6_second(self):
        self.assertEqual(
            [is_double(RANKS.mapped({1: 1, 2: 2, 3: 2}), (Run((3, 9), (Round(((3, 9),)),)), 3, 9)),
             [str(one) for one in all_doubles(RANKS.mapped({1: 1, 2: 1, 3: 2}), (0, 1))]],
            [True, ['run of 2 threads: 1|0']])

    def test_stage_7_first(self):
        self.assertEqual(
            [signed_counts(RANKS, 2), opened_at(signed_counts(RANKS, 2), 1), is_family(family_of(RANKS)),
             count_of(signed_counts(RANKS, 2), {0: 2}), family_of(RANKS) == family_of(RANKS.lengthened())],
            [{(1, 3): 1, (2, 1): 1, (2, 3): -1}, {(1,): 1}, True, 0, True])

    def test_stage_7_second(self):
        self.assertEqual(
            [is_family(({(): 1}, {(1,): 1}, {(1, 1): 1})), is_family(({(): 1}, {(1,): 1}, {(1, 2): 1, (2, 1): 1})),
             rearranged({(1, 3): 1, (2, 1): 1}, (1, 0)), signed_counts(RANKS, 0)],
            [True, False, {(1, 2): 1, (3, 1): 1}, {(): 1}])

    def test_stage_8_first(self):
        self.assertEqual(
            [binomial(6, 2), common_factor(6, (2, 3, 4)), common_factor(4, (1, 2, 3)), prime_base(9), prime_base(6),
             allowed_marks(6, 8, 4), least_free(6), least_free(9)],
            [15, 5, 2, 3, None, (2, 3, 4), 9, 17])

    def test_stage_8_second(self):
        self.assertEqual(
            [is_barred(6, 8), is_barred(6, 9), is_barred_paper(6, 8, ("group", 4, 5)), is_barred_paper(2, 1, ("few",)),
             is_free_paper(2, 3, ((1, 0), (0, 1)))],
            [True, False, True, True, True])

    def test_stage_9_first(self):
        self.assertEqual(
            [marked_threads(RANKS, (2, 3), Run((5, 8), (Round(((8,), (5,))),))), mark_counts(RANKS, (2, 3), 2),
             all_marked(RANKS, (2, 3)), triangle_of(RANKS, (2, 3)), reached_marks(RANKS, (2, 3))],
            [(5,), {(0,): 1, (0, 1): -1, (1,): 1}, (1, 0, -1), ((1,), (1, 0), (0, 1, -1)), (1, 2)])

    def test_stage_9_second(self):
        two = RANKS.mapped({1: 1, 2: 2, 3: 2})
        self.assertEqual(
            [str(forced_double(two)[0]), str(forced_run(two, (2,), (1,))), is_forced_paper(two, ((2,), 2, (0, 1, -1))),
             triangle_from((1, 0, -1)), is_triangle(((1,), (0, 1), (0, 0, 2)))],
            ['run of 2 threads: 0 1', 'run of 2 threads: 0 1', True, ((1,), (1, 0), (0, 1, -1)), False])

    def test_stage_10(self):
        self.assertEqual(RANKS, rank_program(2))
        self.assertEqual(
            [rank_program(3).told, is_good(rank_program(4)), shrunk_names(Run((0, 1), (APART,))),
             shrunk_names(Run((0, 1), (BACK,))), shrunk_names(Run((0, 1), (TOGETHER,)))],
            [(1, 2, 3, 4, 5, 6), True, {0: 1, 1: 3}, {0: 2, 1: 1}, {0: 2, 1: 3}])
        self.assertEqual(
            [shrinking_program(2) == RANKS, is_good(shrinking_program(3)), shrinking_program(3).greatest,
             shrunk_names(joint_run((2, 4, 7, 9), 3)), packed_program(RANKS.mapped({1: 7, 2: 9, 3: 8})).told],
            [True, True, 5, {2: 4, 4: 5, 7: 2, 9: 7}, (1, 2, 3)])

    def test_stage_11(self):
        table = Table((3, 5, 8))
        self.assertEqual(
            [table.go(Round(((5,), (3, 8)))), table.places, table.go(Round(((3, 5, 8),))), bool(table), table.names,
             str(table)],
            [{5: 1, 8: 5}, {3: (4, -1)}, {3: 4}, False, {3: 4, 5: 1, 8: 5}, 'table of 3 threads: 2 rounds, 3 named'])
        self.assertEqual(
            [table.undo(many=2), table.stop(8), table.finish(), table.names, table.run[0].blocks, len(table)],
            [(3, 5, 8), None, 2, {3: 2, 5: 3, 8: None}, ((3, 5), (8,)), 2])

    def test_stage_12(self):
        self.assertEqual(
            [choices_in(least_choice(2, 1), Run((5, 8), (Round(((8,), (5,))),))), choice_counts(least_choice(2, 1), 2),
             rainbow_sum(least_choice(2, 1), 2), str(found_rainbow(least_choice(2, 1)))],
            [{5: 5, 8: 8}, {(0, 1): 1}, 1, 'run of 2 threads: 1|0'])
        self.assertEqual(
            [rainbow_sum(greatest_choice(3, 1), 3), chosen_numbers(least_choice(2, 1), 2), is_election(least_choice(3, 1)),
             is_election(least_choice(3, 2)), is_choice(RANKS), own_choice(2, 0).names],
            [1, {1: 2, 2: 1}, True, False, False, {(0, ()): 1}])

    def test_stage_13(self):
        self.assertEqual(
            [reached_wish(RANKS, (2, 3)), is_fulfilled(RANKS, (2, 3), ((0,), (1, 2))), names_wish(2, 2, 1),
             is_open(((0, 1), (1,))), is_open(((0,), (1, 2)))],
            [((0,), (1, 2)), True, ((0, 1), (1,)), False, True])
        self.assertEqual(
            [fitting_triangle(((0,), (1, 2))), is_shut_paper(((0, 1), (1,)), {0: (2, ((1, 1),)), 1: (2, ((1, 1),))}),
             pair_program(((0,), (1, 2))).names],
            [((1,), (1, 0), (0, 1, -1)), True,
             {(0, (((0, (0,)),),)): 1, (0, (((0, (0, 1)),),)): 2, (1, (((1, (0, 1)),),)): 2}])

    def test_stage_14(self):
        self.assertEqual(
            [write_program(RANKS),
             read_run("0 2|1, 1|0|2") == Run((0, 1, 2), (Round(((0, 2), (1,))), Round(((1,), (0,), (2,))))),
             write_run(Run((4, 7), ())), read_group("-"), read_program("2 1: 1 2 3") == RANKS],
            ['2 1: 1 2 3', True, 'none 4 7', (), True])
        shell = Shell()
        self.assertEqual(
            [shell("rank r 2"), shell("enter two 2 1: 1 2 2"), shell("pin within r 3"), shell("double two"),
             shell("triangle r 2 3"), shell("names r 8|5"), shell("barred 6 8"), shell("grade nobody"), len(shell)],
            ['r - 3', 'two - double', 'none', '0 1', '0 1 -1', '2 1', 'yes', 'unknown nobody', 7])

    def test_texts_of_the_interface(self):
        self.assertEqual(str(Round(((0, 2), (1,)))), "0 2|1")
        run = Run((0, 1, 2), (Round(((0, 2), (1,))), Round(((1,), (0,), (2,)))))
        self.assertEqual(str(run), "run of 3 threads: 0 2|1, 1|0|2")
        self.assertEqual(str(Run((0, 1, 2), ())), "run of 3 threads: no round")
        self.assertEqual(str(rank_program(3)), "program for 3 threads, 1 rounds: 6 patterns, names to 6")
        table = Table((3, 5, 8))
        table.go(Round(((3,), (5, 8))))
        table.undo()
        table.go(Round(((3, 5, 8),)))
        self.assertEqual(str(table), "table of 3 threads: 1 rounds, 1 named")
        desk = Desk()
        desk.enter("ranks", RANKS)
        desk.enter("two", RANKS.mapped({1: 1, 2: 2, 3: 2}))
        self.assertEqual(str(desk), "desk of 2 programs, 0 pins")
        shell = Shell()
        self.assertEqual([shell("rank ranks 2"), shell("enter two 2 1: 1 2 2")], ["ranks - 3", "two - double"])
        self.assertEqual([shell("grades"), str(shell)], ["ranks:3 two:double", "shell of 3 commands"])


if __name__ == "__main__":
    unittest.main()
