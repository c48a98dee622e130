"""Rounds: what is one, what its methods return and refuse, and point [1.1]."""

import copy
import unittest

from fewnames.base.rounds import MAX_THREADS, Round, all_rounds, is_threads, round_count
from fewnames.base.runs import Run
from fewnames.errors import InvalidNumber, InvalidOperation, InvalidRound, InvalidThreads
from tests.samples import (
    APART, BACK, LONGEST, TOGETHER, TOO_LONG, odd_values, plain_rows, plain_sees, plain_sign)

FIVE = (1, 4, 6, 7, 9)
COUNTS = [1, 3, 13, 75, 541]
# Those of the odd values that are tuples of threads.
THREADS = ((0,), (0, 1))


def rounds_of_all_sizes():
    return [one for size in range(1, 6) for one in all_rounds(FIVE[:size])]


class ThreadsTest(unittest.TestCase):
    def test_threads(self):
        for value in ((0,), (3, 7), (0, 1, 2, 3, 4), (0, LONGEST), (LONGEST,), FIVE):
            self.assertIs(is_threads(value), True)

    def test_no_threads(self):
        wrong = [
            (), [0, 1], [], (1, 0), (0, 0), (1, 1, 2), (0, 2, 1), (0, 1, 2, 3, 4, 5), (-1,), (-1, 0), (True,), (0, True),
            (False, 1), (TOO_LONG,), (0, TOO_LONG), (None,), ("0",), (0, "1"), ("a", "b"), (0, None), (0, (1,)),
            ((0,), (1,)), ([0],), ({},), 0, 5, "01", {0: 1}, None, True, APART, (APART,), (0, APART),
        ]
        for value in wrong:
            with self.subTest(value=value):
                self.assertIs(is_threads(value), False)

    def test_values_of_any_kind_are_judged(self):
        for value in odd_values():
            with self.subTest(value=value):
                self.assertIs(is_threads(value), value in THREADS)


class MakingTest(unittest.TestCase):
    def test_rounds(self):
        for blocks in (((0,),), ((0, 1, 2, 3, 4),), ((4,), (3,), (2,), (1,), (0,)), ((0, LONGEST), (1,)), ((7,), (3, 9))):
            with self.subTest(blocks=blocks):
                made = Round(blocks)
                self.assertEqual(made.blocks, blocks)
                self.assertEqual(made.threads, tuple(sorted(sum(blocks, ()))))

    def test_no_rounds(self):
        wrong = [
            (), ((),), ((0,), ()), ((), (0,)), [(0,), (1,)], ([0], [1]), ((0,), [1]), [[0]], ((0, 0),), ((0,), (0,)),
            ((0, 1), (1, 2)), ((1, 0),), ((0,), (2, 1)), ((True,),), ((0,), (True,)), ((0, True),), ((False,), (1,)),
            ((-1,),), ((-1, 0),), ((TOO_LONG,),), ((0,), (TOO_LONG,)), ((-TOO_LONG,),), ((0, 1, 2, 3, 4, 5),),
            ((0, 1, 2), (3, 4, 5)), ((0,), (1,), (2,), (3,), (4,), (5,)), (0, 1), ((0,), 1), (0,), ((0,), None), (None,),
            (("0",),), (("a", "b"),), ((0, "1"),), ((0, None),), (((0,),),), ((0, (1,)),), (([0],),), (({},),),
            "0|1", ("0",), 0, None, True, {}, {(0,): (1,)}, APART, (APART,), ((APART,),), Run((0,), ()),
        ]
        for blocks in wrong:
            with self.subTest(blocks=blocks):
                self.assertRaises(InvalidRound, Round, blocks)

    def test_values_of_any_kind_are_refused(self):
        for value in odd_values():
            with self.subTest(value=value):
                if value not in (APART.blocks, BACK.blocks):
                    self.assertRaises(InvalidRound, Round, value)
                if value not in THREADS:
                    self.assertRaises(InvalidRound, Round, (value, (7,)))
                self.assertRaises(InvalidRound, Round, ((7,), (8, value)))

    def test_rounds_never_change(self):
        for name in ("blocks", "threads", "sign"):
            with self.subTest(name):
                self.assertRaises(AttributeError, setattr, APART, name, 1)


class SignTest(unittest.TestCase):
    def test_signs(self):
        self.assertEqual([APART.sign, BACK.sign, TOGETHER.sign], [1, 1, -1])
        self.assertEqual(Round(((0, 1, 2),)).sign, 1)
        self.assertEqual(Round(((0, 1, 2, 3),)).sign, -1)
        self.assertEqual(Round(((0, 1), (2, 3))).sign, 1)

    def test_all_signs(self):
        for one in rounds_of_all_sizes():
            self.assertEqual(one.sign, plain_sign(one.blocks))


class LookingTest(unittest.TestCase):
    def test_sees_own_block_and_those_ahead(self):
        one = Round(((6,), (4, 9), (1, 7)))
        self.assertEqual([one.sees(k) for k in FIVE], [FIVE, (4, 6, 9), (6,), FIVE, (4, 6, 9)])

    def test_all_that_is_seen(self):
        for one in rounds_of_all_sizes():
            for thread in one.threads:
                self.assertEqual(one.sees(thread), plain_sees(one.blocks, thread))

    def test_block_of(self):
        for one in rounds_of_all_sizes():
            for thread in one.threads:
                self.assertIn(thread, one.blocks[one.block_of(thread)])

    def test_is_seen_if_another_one_sees_it(self):
        for one in rounds_of_all_sizes():
            for thread in one.threads:
                seen = any(thread in one.sees(other) for other in one.threads if other != thread)
                self.assertIs(one.is_seen(thread), seen)

    def test_threads_that_are_none(self):
        for method in ("sees", "block_of", "without", "moved", "is_seen"):
            for value in odd_values() + [2, -1, 10 ** 60 - 1]:
                with self.subTest(method, value=value), self.assertRaises(InvalidNumber) as caught:
                    getattr(APART, method)(value)
                self.assertIs(caught.exception.given, value)

    def test_a_round_that_was_asked_answers_as_a_new_one(self):
        for one in rounds_of_all_sizes():
            for thread in one.threads:
                one.sees(thread), one.block_of(thread), one.is_seen(thread)
            for value in (True, False, None, "4", 4.5, [4], (4,), {}, 5, -1, TOO_LONG):
                for method in (one.sees, one.block_of, one.is_seen, one.without, one.moved):
                    self.assertRaises(InvalidNumber, method, value)
            for thread in one.threads:
                new = Round(one.blocks)
                self.assertEqual(
                    [one.sees(thread), one.block_of(thread), one.is_seen(thread)],
                    [new.sees(thread), new.block_of(thread), new.is_seen(thread)])

    def test_no_thread_comes_ahead_of_the_only_one(self):
        only = Round(((1,),))
        for method in ("without", "moved"):
            for value in (0, True, None, "1", (1,)):
                with self.subTest(method, value=value):
                    self.assertRaises(InvalidNumber, getattr(only, method), value)


class ChangedRoundsTest(unittest.TestCase):
    def test_without(self):
        one = Round(((6,), (4, 9), (1, 7)))
        self.assertEqual(one.without(6).blocks, ((4, 9), (1, 7)))
        self.assertEqual(one.without(4).blocks, ((6,), (9,), (1, 7)))
        self.assertEqual(one.without(7).blocks, ((6,), (4, 9), (1,)))

    def test_without_leaves_what_the_others_see_of_each_other(self):
        for one in rounds_of_all_sizes():
            for thread in one.threads[:-1] if len(one.threads) > 1 else ():
                less = one.without(thread)
                for other in less.threads:
                    self.assertEqual(less.sees(other), tuple(k for k in one.sees(other) if k != thread))

    def test_the_only_thread_stays(self):
        self.assertRaises(InvalidOperation, Round(((3,),)).without, 3)
        self.assertRaises(InvalidOperation, Round(((3,),)).moved, 3)

    def test_moved_joins_the_next_block(self):
        one = Round(((6,), (4, 9), (1,)))
        self.assertEqual(one.moved(6).blocks, ((4, 6, 9), (1,)))
        self.assertEqual(Round(((9,), (6,), (4,))).moved(6).blocks, ((9,), (4, 6)))

    def test_moved_stands_alone_just_ahead(self):
        one = Round(((6,), (4, 9), (1, 7)))
        self.assertEqual(one.moved(9).blocks, ((6,), (9,), (4,), (1, 7)))
        self.assertEqual(one.moved(1).blocks, ((6,), (4, 9), (1,), (7,)))

    def test_the_last_one_does_not_move(self):
        self.assertRaises(InvalidOperation, APART.moved, 1)
        self.assertRaises(InvalidOperation, Round(((0, 1), (2,))).moved, 2)

    def test_renamed(self):
        one = Round(((6,), (4, 9), (1,)))
        self.assertEqual(one.renamed({1: 5, 4: 8, 6: 0, 9: 2}).blocks, ((0,), (2, 8), (5,)))
        self.assertEqual(one.renamed({9: 2, 6: 0, 4: 8, 1: 5}), one.renamed({1: 5, 4: 8, 6: 0, 9: 2}))
        self.assertEqual(APART.renamed({0: 1, 1: 0}), BACK)
        self.assertEqual(APART.renamed({0: 0, 1: 1}), APART)
        self.assertEqual(APART.renamed({0: LONGEST, 1: 0}).blocks, ((LONGEST,), (0,)))

    def test_renamed_by_no_such_dict(self):
        wrong = odd_values() + [
            {0: 5}, {0: 5, 2: 6}, {0: 5, 1: 6, 2: 7}, {0: 5, 1: 5}, {0: 5, True: 6}, {False: 5, 1: 6}, {"0": 5, 1: 6},
            {0: 5, 1: True}, {0: False, 1: 5}, {0: -1, 1: 6}, {0: TOO_LONG, 1: 6}, {0: None, 1: 6}, {0: "5", 1: 6},
            {0: [5], 1: 6}, {0: (5,), 1: 6}, {0: {}, 1: 6}, {None: 5, 1: 6}, {(0,): 5, 1: 6}, {0: 5, -1: 6},
            [(0, 5), (1, 6)], [5, 6], (5, 6), {0: APART, 1: 5}, {0: "", 1: ""}, 0, 5,
        ]
        for names in wrong:
            with self.subTest(names=names):
                self.assertRaises(InvalidOperation, APART.renamed, names)

    def test_one_in_place_of_true(self):
        self.assertRaises(InvalidOperation, Round(((1,),)).renamed, {True: 0})
        self.assertRaises(InvalidOperation, Round(((0,),)).renamed, {0: True})


class RowTest(unittest.TestCase):
    def test_membership(self):
        one = Round(((6,), (1, 4)))
        for thread in (1, 4, 6):
            self.assertIs(thread in one, True)
        for value in odd_values() + [0, 2, -1, (1, 4), "6"]:
            self.assertIs(value in one, False)

    def test_true_is_no_thread(self):
        self.assertNotIn(True, APART)
        self.assertNotIn(False, APART)

    def test_iteration(self):
        one = Round(((6,), (1, 4)))
        self.assertEqual(list(one), [(6,), (1, 4)])
        self.assertEqual(list(one), [(6,), (1, 4)])

    def test_length(self):
        self.assertEqual([len(APART), len(TOGETHER), len(Round(((6,), (1, 4), (0,))))], [2, 1, 3])

    def test_text(self):
        self.assertEqual([str(APART), str(BACK), str(TOGETHER), str(Round(((3,),)))], ["0|1", "1|0", "0 1", "3"])
        self.assertEqual(str(Round(((12, 30), (LONGEST,)))), "12 30|" + "9" * 60)

    def test_equality(self):
        self.assertIs(APART == Round(((0,), (1,))), True)
        self.assertIs(APART != Round(((0,), (1,))), False)
        for other in (BACK, TOGETHER, Round(((0,),)), Round(((0,), (2,)))):
            self.assertIs(APART == other, False)
            self.assertIs(APART != other, True)

    def test_equality_with_values_of_any_kind(self):
        for value in odd_values() + [((0,), (1,)), "0|1", Run((0, 1), (APART,)), 0]:
            if not isinstance(value, Round):
                self.assertIs(APART == value, False)
                self.assertIs(APART != value, True)
                self.assertIs(value == APART, False)

    def test_equality_of_all(self):
        rounds = list(all_rounds((0, 1, 2)))
        for at, one in enumerate(rounds):
            for to, other in enumerate(rounds):
                self.assertIs(one == other, at == to)
                self.assertIs(one != other, at != to)


class AllRoundsTest(unittest.TestCase):
    def test_all_rounds_in_their_order(self):
        for size in range(1, 6):
            self.assertEqual([one.blocks for one in all_rounds(FIVE[:size])], plain_rows(FIVE[:size]))

    def test_counts(self):
        self.assertEqual(MAX_THREADS, 5)
        self.assertEqual([round_count(size) for size in range(1, 6)], COUNTS)
        self.assertEqual([len(list(all_rounds(FIVE[:size]))) for size in range(1, 6)], COUNTS)

    def test_wrong_sizes(self):
        for size in odd_values() + [0, 6, -1, 10 ** 60 - 1]:
            with self.subTest(size=size), self.assertRaises(InvalidNumber) as caught:
                round_count(size)
            self.assertIs(caught.exception.given, size)

    def test_wrong_threads_are_refused_with_the_first_element(self):
        for threads in [(), (1, 0), (0, 0), [0, 1], (True,), (-1,), (0, 1, 2, 3, 4, 5), (TOO_LONG,), None, 3, "01", APART]:
            with self.subTest(threads=threads):
                asked = all_rounds(threads)
                self.assertRaises(InvalidThreads, next, asked)

    def test_it_is_a_generator(self):
        asked = all_rounds((3, 7))
        self.assertIs(iter(asked), asked)
        self.assertEqual([str(next(asked)), str(next(asked)), str(next(asked)), next(asked, None)], ["3|7", "3 7", "7|3", None])

    def test_signs_sum_to_1(self):
        for size in range(1, 6):
            self.assertEqual(sum([one.sign for one in all_rounds(FIVE[:size])]), 1)


class MovedTest(unittest.TestCase):
    def test_a_thread_is_seen_exactly_if_moved_is_let(self):
        for one in rounds_of_all_sizes():
            for thread in one.threads:
                if not one.is_seen(thread):
                    self.assertRaises(InvalidOperation, one.moved, thread)
                    self.assertEqual(one.blocks[-1], (thread,))
                else:
                    self.assertIsInstance(one.moved(thread), Round)

    def test_moving_twice_leads_back(self):
        for one in rounds_of_all_sizes():
            for thread in filter(one.is_seen, one.threads):
                there = one.moved(thread)
                self.assertNotEqual(there, one)
                self.assertEqual(there.moved(thread), one)
                self.assertEqual(there.sign, -one.sign)
                for other in one.threads:
                    self.assertIs(there.sees(other) == one.sees(other), other != thread)


class NothingSharedTest(unittest.TestCase):
    def test_arguments_stay(self):
        names = {1: 5, 0: 8}
        APART.renamed(names)
        self.assertEqual(list(names.items()), [(1, 5), (0, 8)])
        wrong = [[0], [1]]
        self.assertRaises(InvalidRound, Round, wrong)
        self.assertEqual(wrong, [[0], [1]])

    def test_calls_leave_the_round(self):
        one = Round(((6,), (4, 9), (1,)))
        before = copy.deepcopy(one.blocks)
        one.without(6), one.moved(4), one.renamed({1: 2, 4: 3, 6: 5, 9: 7}), one.sees(9), one.is_seen(1), str(one), list(one)
        self.assertRaises(InvalidOperation, one.moved, 1)
        self.assertEqual([one.blocks, one.threads], [before, (1, 4, 6, 9)])

    def test_a_changed_dict_changes_no_round(self):
        names = {0: 5, 1: 8}
        made = APART.renamed(names)
        names[0] = 100
        names.clear()
        self.assertEqual(made.blocks, ((5,), (8,)))

    def test_equal_calls_return_equal_results(self):
        for one in all_rounds((0, 1, 2)):
            again = Round(one.blocks)
            for thread in (0, 1, 2):
                self.assertEqual(one.sees(thread), again.sees(thread))
                self.assertEqual(one.sees(thread), one.sees(thread))
                self.assertEqual(one.without(thread), again.without(thread))
                self.assertEqual(one.without(thread), one.without(thread))
        self.assertEqual(list(all_rounds((0, 1, 2))), list(all_rounds((0, 1, 2))))

    def test_what_is_returned_are_tuples(self):
        one = Round(((6,), (4, 9), (1,)))
        for value in (one.blocks, one.threads, one.sees(1), one.without(1).blocks, one.moved(4).blocks, next(iter(one))):
            self.assertIs(value.__class__, tuple)
        for block in one.renamed({1: 2, 4: 3, 6: 5, 9: 7}).blocks + one.moved(6).blocks + one.without(4).blocks:
            self.assertIs(block.__class__, tuple)


if __name__ == "__main__":
    unittest.main()
