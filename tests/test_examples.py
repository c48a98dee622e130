"""The examples of the document, as they stand there."""

import unittest

from fewnames.base.rounds import Round, all_rounds, round_count
from fewnames.base.runs import Run, all_runs, joint_run, lined_run, run_count
from tests.samples import APART, BACK, TOGETHER


class ExamplesTest(unittest.TestCase):
    def test_stage_1_first(self):
        self.assertEqual(
            [Round(((2,), (0, 1))).sees(0), Round(((2,), (0, 1))).sign, str(APART.moved(0)), str(TOGETHER.moved(1)),
             TOGETHER.sees(1), APART.is_seen(1)],
            [(0, 1, 2), -1, '0 1', '1|0', (0, 1), False])

    def test_stage_1_second(self):
        self.assertEqual(
            [[str(one) for one in all_rounds((3, 7))], round_count(4), str(Round(((2,), (0, 1))).without(2)),
             APART.renamed({0: 9, 1: 4}).blocks],
            [['3|7', '3 7', '7|3'], 75, '0 1', ((9,), (4,))])

    def test_stage_2_first(self):
        run = Run((0, 1), (APART, BACK))
        self.assertEqual(
            [run.sign, run.known(0), run.is_hidden(1), str(run), str(run.without(0)), str(run.shortened(1)),
             len(run.with_round(TOGETHER))],
            [1, (0, 1), False, 'run of 2 threads: 0|1, 1|0', 'run of 1 threads: 1, 1', 'run of 2 threads: 0|1', 3])

    def test_stage_2_second(self):
        self.assertEqual(
            [run_count(3, 2), sum([one.sign for one in all_runs((0, 1, 2), 2)]), lined_run((2, 0), 1)[0].blocks,
             joint_run((0, 1, 2), 3).sign],
            [169, 1, ((2,), (0,)), 1])

    def test_texts_of_the_interface(self):
        self.assertEqual(str(Round(((0, 2), (1,)))), "0 2|1")
        run = Run((0, 1, 2), (Round(((0, 2), (1,))), Round(((1,), (0,), (2,)))))
        self.assertEqual(str(run), "run of 3 threads: 0 2|1, 1|0|2")
        self.assertEqual(str(Run((0, 1, 2), ())), "run of 3 threads: no round")


if __name__ == "__main__":
    unittest.main()
