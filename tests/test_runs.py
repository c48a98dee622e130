"""Runs: what is one, what its methods return and refuse, and point [2.1]."""

import itertools
import math
import unittest

from fewnames.base.rounds import Round, all_rounds
from fewnames.base.runs import MAX_ROUNDS, Run, all_runs, joint_run, lined_run, run_count
from fewnames.errors import InvalidNumber, InvalidOperation, InvalidRound, InvalidRun, InvalidThreads, TooMany
from tests.samples import (
    APART, BACK, LONGEST, TOGETHER, TOO_LONG, all_orders, odd_values, plain_known, plain_rows, runs_of_few)

WRONG_THREADS = [
    (), (1, 0), (0, 0), [0, 1], (True,), (0, True), (-1,), (0, 1, 2, 3, 4, 5), (TOO_LONG,), None, 3, True, "01", {0: 1},
    ((0,), (1,)), (None,), APART, (APART,),
]
WRONG_LENGTHS = [-1, 7, LONGEST, -LONGEST] + odd_values()


class MakingTest(unittest.TestCase):
    def test_runs(self):
        for threads, rounds in [
                ((0, 1), ()), ((0, 1), (APART,)), ((0, 1), (APART,) * 6), ((7,), (Round(((7,),)),)),
                ((0, 1, 2, 3, 4), (Round(((4,), (0, 1, 2, 3))),)), ((0, LONGEST), ())]:
            with self.subTest(threads=threads, rounds=rounds):
                run = Run(threads, rounds)
                self.assertEqual(run.threads, threads)
                self.assertEqual(run.rounds, rounds)

    def test_no_threads(self):
        for threads in WRONG_THREADS:
            with self.subTest(threads=threads):
                self.assertRaises(InvalidThreads, Run, threads, ())
                self.assertRaises(InvalidThreads, Run, threads, None)
                self.assertRaises(InvalidThreads, Run, threads, (APART,))

    def test_no_rounds(self):
        wrong = [
            [APART], [], None, 0, True, "", "0|1", {}, {0: APART}, APART, Run((0, 1), ()), (APART,) * 7, (None,), (0,),
            (APART, None), (APART, ((0,), (1,))), (((0,), (1,)),), ("0|1",), (APART, [APART]), ((APART,),),
            (Round(((0,),)),), (Round(((0,), (2,))),), (Round(((0, 1, 2),)),), (APART, Round(((1,),))),
            (Run((0, 1), ()),), ((),),
        ]
        for rounds in wrong:
            with self.subTest(rounds=rounds):
                self.assertRaises(InvalidRun, Run, (0, 1), rounds)

    def test_values_of_any_kind_are_refused(self):
        for value in odd_values():
            if value != ():
                with self.subTest(value=value):
                    self.assertRaises(InvalidRun, Run, (5, 9), value)
            with self.subTest(value=value):
                self.assertRaises(InvalidRun, Run, (5, 9), (value,))

    def test_runs_never_change(self):
        run = Run((0, 1), (APART,))
        for name in ("threads", "rounds", "sign"):
            with self.subTest(name):
                self.assertRaises(AttributeError, setattr, run, name, 1)
        with self.assertRaises(TypeError):
            run[0] = BACK


class SignTest(unittest.TestCase):
    def test_no_round_has_sign_1(self):
        for threads in ((3,), (0, 1), (0, 1, 2, 3, 4)):
            self.assertEqual(Run(threads, ()).sign, 1)

    def test_signs_are_products(self):
        self.assertEqual(Run((0, 1), (TOGETHER,)).sign, -1)
        self.assertEqual(Run((0, 1), (TOGETHER, APART, TOGETHER)).sign, 1)
        for run in runs_of_few():
            self.assertEqual(run.sign, math.prod(one.sign for one in run.rounds))


class ChangedRunsTest(unittest.TestCase):
    def test_with_round(self):
        run = Run((0, 1), (APART,)).with_round(BACK)
        self.assertEqual(run.rounds, (APART, BACK))
        self.assertEqual(Run((0, 1), ()).with_round(TOGETHER), Run((0, 1), (TOGETHER,)))
        self.assertEqual(len(Run((0, 1), (APART,) * 5).with_round(BACK)), 6)

    def test_with_round_that_is_none(self):
        for extra in odd_values() + [Round(((0,),)), Round(((0,), (2,))), Round(((0, 1, 2),)), (APART,), "0|1", 0]:
            if extra not in (APART, TOGETHER):
                for rounds in ((), (APART,), (APART,) * 6):
                    with self.subTest(extra=extra, rounds=rounds):
                        self.assertRaises(InvalidRound, Run((0, 1), rounds).with_round, extra)

    def test_seventh_round(self):
        with self.assertRaises(TooMany) as caught:
            Run((0, 1), (APART,) * 6).with_round(BACK)
        self.assertEqual(caught.exception.limit, 6)

    def test_shortened(self):
        run = Run((0, 1), (APART, BACK, TOGETHER))
        for length in range(4):
            self.assertEqual(run.shortened(length), Run((0, 1), (APART, BACK, TOGETHER)[:length]))

    def test_shortened_to_no_length(self):
        for length in odd_values() + [-1, 4, 6]:
            with self.subTest(length=length), self.assertRaises(InvalidNumber) as caught:
                Run((0, 1), (APART, BACK, TOGETHER)).shortened(length)
            self.assertIs(caught.exception.given, length)

    def test_without(self):
        run = Run((0, 1, 2), (Round(((0, 2), (1,))), Round(((1,), (0,), (2,)))))
        self.assertEqual(run.without(0), Run((1, 2), (Round(((2,), (1,))), Round(((1,), (2,))))))
        self.assertEqual(run.without(1), Run((0, 2), (Round(((0, 2),)), Round(((0,), (2,))))))
        self.assertEqual(Run((0, 1), ()).without(1), Run((0,), ()))

    def test_the_only_thread_stays(self):
        self.assertRaises(InvalidOperation, Run((3,), ()).without, 3)
        self.assertRaises(InvalidOperation, joint_run((3,), 2).without, 3)
        self.assertRaises(InvalidNumber, Run((3,), ()).without, 4)
        self.assertRaises(InvalidNumber, Run((1,), ()).without, True)

    def test_renamed(self):
        run = Run((0, 1, 2), (Round(((0, 2), (1,))), Round(((1,), (0,), (2,)))))
        made = run.renamed({0: 9, 1: 3, 2: 5})
        self.assertEqual(made, Run((3, 5, 9), (Round(((5, 9), (3,))), Round(((3,), (9,), (5,))))))
        self.assertEqual(made.renamed({9: 0, 3: 1, 5: 2}), run)
        self.assertEqual(Run((0, 1), ()).renamed({1: 4, 0: 8}), Run((4, 8), ()))

    def test_renamed_by_no_such_dict(self):
        wrong = odd_values() + [
            {0: 5}, {0: 5, 2: 6}, {0: 5, 1: 6, 2: 7}, {0: 5, 1: 5}, {0: 5, True: 6}, {False: 5, 1: 6}, {"0": 5, 1: 6},
            {0: 5, 1: True}, {0: False, 1: 5}, {0: -1, 1: 6}, {0: TOO_LONG, 1: 6}, {0: None, 1: 6}, {0: [5], 1: 6},
            [(0, 5), (1, 6)], [5, 6], 0,
        ]
        for names in wrong:
            for rounds in ((), (APART,)):
                with self.subTest(names=names, rounds=rounds):
                    self.assertRaises(InvalidOperation, Run((0, 1), rounds).renamed, names)


class KnowingTest(unittest.TestCase):
    def test_known(self):
        line = Run((0, 1, 2), (Round(((0,), (1,), (2,))), Round(((1,), (0,), (2,)))))
        self.assertEqual([line.known(k) for k in (0, 1, 2)], [(0, 1), (0, 1), (0, 1, 2)])
        taken = Run((0, 1, 2), (Round(((2,), (0,), (1,))), Round(((0,), (1, 2)))))
        self.assertEqual([taken.known(k) for k in (0, 1, 2)], [(0, 2), (0, 1, 2), (0, 1, 2)])
        self.assertEqual([Run((4, 9), ()).known(k) for k in (4, 9)], [(4,), (9,)])

    def test_all_that_is_known(self):
        for run in runs_of_few():
            rows = [one.blocks for one in run.rounds]
            for thread in run.threads:
                self.assertEqual(run.known(thread), plain_known(rows, run.threads, thread))

    def test_hidden(self):
        self.assertIs(Run((0, 1), (APART,)).is_hidden(1), True)
        self.assertIs(Run((0, 1), (APART,)).is_hidden(0), False)
        self.assertIs(Run((0, 1), (APART, APART, TOGETHER)).is_hidden(1), False)
        self.assertIs(Run((0, 1), ()).is_hidden(0), True)
        self.assertIs(joint_run((7,), 3).is_hidden(7), True)

    def test_threads_that_are_none(self):
        for method in ("without", "known", "is_hidden"):
            for rounds in ((), (APART, BACK)):
                for value in odd_values() + [2, -1, LONGEST]:
                    with self.subTest(method, value=value), self.assertRaises(InvalidNumber) as caught:
                        getattr(Run((0, 1), rounds), method)(value)
                    self.assertIs(caught.exception.given, value)

    def test_hidden_exactly_if_alone_in_each_last_block(self):
        for run in runs_of_few():
            for thread in run.threads:
                last = all(one.blocks[-1] == (thread,) for one in run.rounds)
                self.assertIs(run.is_hidden(thread), last)
                seen = any(thread in one.sees(other)
                           for one in run.rounds for other in run.threads if other != thread)
                self.assertIs(run.is_hidden(thread), not seen)

    def test_taking_a_hidden_thread_away_leaves_the_sign(self):
        for run in runs_of_few():
            for thread in run.threads:
                if len(run.threads) > 1 and run.is_hidden(thread):
                    self.assertEqual(run.without(thread).sign, run.sign)


class RowTest(unittest.TestCase):
    def setUp(self):
        self.run_of_three = Run((0, 1), (APART, BACK, TOGETHER))

    def test_index(self):
        self.assertEqual([self.run_of_three[k] for k in range(3)], [APART, BACK, TOGETHER])

    def test_no_index(self):
        for index in odd_values() + [3, -1, -3, LONGEST, slice(0, 1)]:
            with self.subTest(index=index), self.assertRaises(InvalidNumber) as caught:
                self.run_of_three[index]
            self.assertIs(caught.exception.given, index)
        for index in (0, -1, 1):
            self.assertRaises(InvalidNumber, Run((0, 1), ()).__getitem__, index)

    def test_iteration(self):
        self.assertEqual(list(self.run_of_three), [APART, BACK, TOGETHER])
        self.assertEqual(list(self.run_of_three), [APART, BACK, TOGETHER])
        self.assertEqual(list(Run((0, 1), ())), [])

    def test_length(self):
        self.assertEqual([len(self.run_of_three), len(Run((0, 1), ())), len(joint_run((3,), 6))], [3, 0, 6])

    def test_text(self):
        self.assertEqual(str(self.run_of_three), "run of 2 threads: 0|1, 1|0, 0 1")
        self.assertEqual(str(Run((7,), ())), "run of 1 threads: no round")
        self.assertEqual(str(joint_run((2, 11), 1)), "run of 2 threads: 2 11")

    def test_equality(self):
        self.assertIs(self.run_of_three == Run((0, 1), (APART, BACK, TOGETHER)), True)
        self.assertIs(self.run_of_three != Run((0, 1), (APART, BACK, TOGETHER)), False)
        self.assertIs(Run((0, 1), ()) == Run((0, 1), ()), True)
        unlike = [Run((0, 1), ()), Run((0, 1), (APART, BACK)), Run((0, 1), (BACK, APART, TOGETHER)), Run((0, 2), ())]
        for other in unlike:
            self.assertIs(self.run_of_three == other, False)
            self.assertIs(self.run_of_three != other, True)

    def test_runs_without_a_round_differ_in_their_threads(self):
        self.assertIs(Run((0, 1), ()) == Run((0, 2), ()), False)
        self.assertIs(Run((0, 1), ()) != Run((0,), ()), True)

    def test_equality_with_values_of_any_kind(self):
        run = Run((0, 1), (BACK,))
        for value in odd_values() + [(BACK,), [BACK], ((0, 1), (BACK,)), str(run), 0]:
            self.assertIs(run == value, False)
            self.assertIs(run != value, True)
            self.assertIs(value == run, False)

    def test_equality_of_all(self):
        runs = list(all_runs((0, 1), 2))
        for at, one in enumerate(runs):
            for to, other in enumerate(runs):
                self.assertIs(one == other, at == to)
                self.assertIs(one != other, at != to)


class AllRunsTest(unittest.TestCase):
    def test_all_runs_in_their_order(self):
        for threads, most in (((4,), 6), ((2, 5), 6), ((0, 1, 2), 3), ((0, 3, 4, 9), 2), ((0, 1, 2, 3, 4), 1)):
            rows = plain_rows(threads)
            for length in range(most + 1):
                found = [tuple(one.blocks for one in run.rounds) for run in all_runs(threads, length)]
                self.assertEqual(found, list(itertools.product(rows, repeat=length)))
                self.assertEqual(found, sorted(found))
                self.assertEqual(len(found), run_count(len(threads), length))

    def test_threads_of_all_runs(self):
        self.assertEqual({run.threads for run in all_runs((2, 5, 8), 1)}, {(2, 5, 8)})
        self.assertEqual(list(all_runs((2, 5, 8), 0)), [Run((2, 5, 8), ())])

    def test_counts(self):
        self.assertEqual(MAX_ROUNDS, 6)
        for size, each in zip(range(1, 6), (1, 3, 13, 75, 541)):
            for length in range(7):
                self.assertEqual(run_count(size, length), each ** length)

    def test_signs_sum_to_1(self):
        for threads, most in (((4,), 6), ((2, 5), 6), ((0, 1, 2), 3), ((0, 3, 4, 9), 2), ((0, 1, 2, 3, 4), 1)):
            for length in range(most + 1):
                self.assertEqual(sum(run.sign for run in all_runs(threads, length)), 1)

    def test_many_runs_are_told_one_by_one(self):
        asked = all_runs((0, 1, 2, 3, 4), 6)
        self.assertIs(iter(asked), asked)
        first = lined_run((0, 1, 2, 3, 4), 6)
        self.assertEqual(next(asked), first)
        second = next(asked)
        self.assertEqual(second.rounds[:5], first.rounds[:5])
        self.assertEqual(str(second[5]), "0|1|2|3 4")

    def test_the_first_of_many_runs(self):
        for threads, length in (((0, 1, 2), 4), ((0, 1, 2, 3), 3), ((0, 1, 2, 3, 4), 2)):
            rows = plain_rows(threads)
            expected = itertools.islice(itertools.product(rows, repeat=length), 1500)
            found = itertools.islice(all_runs(threads, length), 1500)
            self.assertEqual([tuple(one.blocks for one in run.rounds) for run in found], list(expected))

    def test_wrong_threads_are_refused_with_the_first_element(self):
        for threads in WRONG_THREADS:
            for length in (0, 1, 7, None):
                with self.subTest(threads=threads, length=length):
                    asked = all_runs(threads, length)
                    self.assertRaises(InvalidThreads, next, asked)

    def test_wrong_lengths_are_refused_with_the_first_element(self):
        for length in WRONG_LENGTHS:
            with self.subTest(length=length):
                asked = all_runs((0, 1), length)
                with self.assertRaises(InvalidNumber) as caught:
                    next(asked)
                self.assertIs(caught.exception.given, length)

    def test_wrong_counts(self):
        for size in odd_values() + [0, 6, -1]:
            for length in (0, 7, None):
                with self.subTest(size=size, length=length), self.assertRaises(InvalidNumber) as caught:
                    run_count(size, length)
                self.assertIs(caught.exception.given, size)
        for length in WRONG_LENGTHS:
            with self.subTest(length=length), self.assertRaises(InvalidNumber) as caught:
                run_count(3, length)
            self.assertIs(caught.exception.given, length)


class MadeRunsTest(unittest.TestCase):
    def test_lined_run(self):
        for order in all_orders((1, 4, 6)):
            for length in range(7):
                run = lined_run(order, length)
                self.assertEqual(run.threads, (1, 4, 6))
                self.assertEqual([one.blocks for one in run.rounds], [tuple((k,) for k in order)] * length)
                self.assertEqual(run.sign, 1)
        self.assertEqual(lined_run((4, 3, 2, 1, 0), 2).threads, (0, 1, 2, 3, 4))
        self.assertEqual(lined_run((LONGEST,), 0), Run((LONGEST,), ()))

    def test_no_order(self):
        wrong = [
            (), (0, 0), (2, 0, 2), [2, 0], (True,), (0, True), (True, 0), (-1,), (2, -1), (5, 4, 3, 2, 1, 0), (TOO_LONG, 0),
            None, 3, True, "20", {0: 1}, ((1,), (0,)), (None,), (1, "0"), ("1", "0"), (1, None), APART, (APART, BACK), (1, APART),
        ]
        for order in wrong:
            for length in (0, 2, 7, None):
                with self.subTest(order=order, length=length):
                    self.assertRaises(InvalidThreads, lined_run, order, length)

    def test_joint_run(self):
        for threads in ((3,), (0, 1), (1, 4, 6), (0, 1, 2, 3, 4)):
            for length in range(7):
                run = joint_run(threads, length)
                self.assertEqual(run, Run(threads, (Round((threads,)),) * length))
                self.assertEqual(run.sign, (-1) ** ((len(threads) - 1) * length))

    def test_no_threads(self):
        for threads in WRONG_THREADS:
            for length in (0, 2, 7, None):
                with self.subTest(threads=threads, length=length):
                    self.assertRaises(InvalidThreads, joint_run, threads, length)

    def test_wrong_lengths(self):
        for length in WRONG_LENGTHS:
            for made, threads in ((lined_run, (1, 0)), (joint_run, (0, 1))):
                with self.subTest(length=length), self.assertRaises(InvalidNumber) as caught:
                    made(threads, length)
                self.assertIs(caught.exception.given, length)


class NothingSharedTest(unittest.TestCase):
    def test_arguments_stay(self):
        names = {1: 5, 0: 8}
        run = Run((0, 1), (APART, BACK))
        made = run.renamed(names)
        self.assertEqual(list(names.items()), [(1, 5), (0, 8)])
        names.clear()
        self.assertEqual(made, Run((5, 8), (Round(((8,), (5,))), Round(((5,), (8,))))))
        wrong = [APART]
        self.assertRaises(InvalidRun, Run, (0, 1), wrong)
        self.assertEqual(wrong, [APART])

    def test_calls_leave_the_run(self):
        run = Run((0, 1), (APART, BACK))
        run.with_round(TOGETHER), run.shortened(0), run.without(0), run.renamed({0: 5, 1: 2}), run.known(0)
        run.is_hidden(1), run[0], list(run), str(run), len(run), run.sign
        self.assertRaises(InvalidRound, run.with_round, None)
        self.assertRaises(InvalidNumber, run.shortened, 3)
        self.assertEqual([run.threads, run.rounds], [(0, 1), (APART, BACK)])
        self.assertEqual([APART.blocks, BACK.blocks], [((0,), (1,)), ((1,), (0,))])

    def test_equal_calls_return_equal_results(self):
        for run in runs_of_few():
            again = Run(run.threads, tuple(Round(one.blocks) for one in run.rounds))
            self.assertEqual(run, again)
            for thread in run.threads:
                self.assertEqual(run.known(thread), again.known(thread))
                self.assertEqual(run.known(thread), run.known(thread))
                self.assertEqual(run.is_hidden(thread), again.is_hidden(thread))
        self.assertEqual(list(all_runs((0, 1), 2)), list(all_runs((0, 1), 2)))

    def test_what_is_returned_are_tuples(self):
        run = Run((0, 1), (APART, BACK))
        parts = [run, run.with_round(TOGETHER), run.shortened(1), run.without(0), run.renamed({0: 5, 1: 2})]
        parts = parts + [lined_run((1, 0), 2), joint_run((0, 1), 2)] + list(all_runs((0, 1), 1))
        for one in parts:
            self.assertIs(one.threads.__class__, tuple)
            self.assertIs(one.rounds.__class__, tuple)
            self.assertIs(one.known(one.threads[0]).__class__, tuple)

    def test_generators_go_on_by_themselves(self):
        one = all_runs((0, 1), 1)
        other = all_runs((0, 1), 1)
        next(one)
        self.assertEqual([str(run[0]) for run in other], ["0|1", "0 1", "1|0"])
        self.assertEqual([str(run[0]) for run in one], ["0 1", "1|0"])
        rounds = all_rounds((0, 1))
        next(rounds)
        self.assertEqual(len(list(all_rounds((0, 1)))), 3)


if __name__ == "__main__":
    unittest.main()
