"""The examples of the document, as they stand there."""

import unittest

from fewnames.base.rounds import Round, all_rounds, round_count
from fewnames.base.runs import Run, all_runs, joint_run, lined_run, run_count
from fewnames.programs.programs import program_by
from fewnames.views.partners import (
    chain_between, is_chain, last_seen, neighbors_of, partner_of, same_views, signed_sum)
from fewnames.views.views import (
    all_patterns, carrier_of, is_view, pattern_count, pattern_of, run_with, view_of)
from tests.samples import APART, BACK, RANKS, TOGETHER


class ExamplesTest(unittest.TestCase):
    def test_stage_1_first(self):
        self.assertEqual(
            [Round(((2,), (0, 1))).sees(0), Round(((2,), (0, 1))).sign, str(APART.moved(0)), str(TOGETHER.moved(1)),
             TOGETHER.sees(1), APART.is_seen(1)],
            [(0, 1, 2), -1, '0 1', '1|0', (0, 1), False])

    def test_stage_1_second(self):
        self.assertEqual(
            [[str(one) for one in all_rounds((3, 7))], round_count(4), str(Round(((2,), (0, 1))).without(2)),
             APART.renamed({0: 9, 1: 4}).blocks],
            [['3|7', '3 7', '7|3'], 75, '0 1', ((9,), (4,))])

    def test_stage_2_first(self):
        run = Run((0, 1), (APART, BACK))
        self.assertEqual(
            [run.sign, run.known(0), run.is_hidden(1), str(run), str(run.without(0)), str(run.shortened(1)),
             len(run.with_round(TOGETHER))],
            [1, (0, 1), False, 'run of 2 threads: 0|1, 1|0', 'run of 1 threads: 1, 1', 'run of 2 threads: 0|1', 3])

    def test_stage_2_second(self):
        self.assertEqual(
            [run_count(3, 2), sum([one.sign for one in all_runs((0, 1, 2), 2)]), lined_run((2, 0), 1)[0].blocks,
             joint_run((0, 1, 2), 3).sign],
            [169, 1, ((2,), (0,)), 1])

    def test_stage_3_first(self):
        self.assertEqual(
            [view_of(Run((0, 1), (APART,)), 1), carrier_of(view_of(Run((0, 1), (APART, BACK)), 0))],
            [(1, (((1, (0, 1)),),)), (0, 1)])
        self.assertEqual(
            view_of(Run((0, 1), (APART, BACK)), 0),
            (0, (((0, (0, 1)),), ((0, (0,)), (1, (0, 1))))))

    def test_stage_3_second(self):
        self.assertEqual(
            [pattern_of((7, (((7, (4, 7)),),))), all_patterns(2, 1), pattern_count(3, 2), is_view((0, (((0, (1,)),),))),
             view_of(run_with((0, (((0, (0, 2)),),))), 0)],
            [(1, (((1, (0, 1)),),)), ((0, (((0, (0,)),),)), (0, (((0, (0, 1)),),)), (1, (((1, (0, 1)),),))), 81, False,
             (0, (((0, (0, 2)),),))])

    def test_stage_4_first(self):
        self.assertEqual(
            [str(partner_of(Run((0, 1), (APART,)), 0)), partner_of(Run((0, 1), (APART,)), 1),
             str(partner_of(Run((0, 1), (BACK, APART)), 1)), last_seen(Run((0, 1), (BACK, APART)), 1)],
            ['run of 2 threads: 0 1', None, 'run of 2 threads: 0 1, 0|1', 0])

    def test_stage_4_second(self):
        self.assertEqual(
            [is_chain(chain_between(Run((0, 1), (APART,)), Run((0, 1), (BACK,)))),
             same_views(Run((0, 1), (APART,)), Run((0, 1), (TOGETHER,))), signed_sum(Run((0, 1), (APART,)), 1),
             list(neighbors_of(joint_run((0, 1, 2), 2)))],
            [True, (1,), 1, [0, 1, 2]])

    def test_stage_5_first(self):
        self.assertEqual(
            [RANKS.names, RANKS.name_of((7, (((7, (4, 7)),),))), RANKS.names_in(Run((5, 8), (Round(((8,), (5,))),))),
             RANKS.told, str(RANKS)],
            [{(0, (((0, (0,)),),)): 1, (0, (((0, (0, 1)),),)): 2, (1, (((1, (0, 1)),),)): 3}, 3, {5: 2, 8: 1}, (1, 2, 3),
             'program for 2 threads, 1 rounds: 3 patterns, names to 3'])

    def test_stage_5_second(self):
        self.assertEqual(
            [RANKS.mirrored().names_in(Run((0, 1), (TOGETHER,))), len(RANKS.lengthened()), RANKS.for_fewer(1).names,
             program_by(2, 0, lambda one: 4).names, RANKS.mapped({1: 1, 2: 2, 3: 2}).greatest],
            [{0: 3, 1: 2}, 9, {(0, (((0, (0,)),),)): 1}, {(0, ()): 4}, 2])

    def test_texts_of_the_interface(self):
        self.assertEqual(str(Round(((0, 2), (1,)))), "0 2|1")
        run = Run((0, 1, 2), (Round(((0, 2), (1,))), Round(((1,), (0,), (2,)))))
        self.assertEqual(str(run), "run of 3 threads: 0 2|1, 1|0|2")
        self.assertEqual(str(Run((0, 1, 2), ())), "run of 3 threads: no round")


if __name__ == "__main__":
    unittest.main()
