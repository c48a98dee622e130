"""Partners and chains: points [0.14], [0.15], [0.18] and [4.1], and what their functions return and refuse."""

import itertools
import unittest

from fewnames.base.rounds import Round
from fewnames.base.runs import Run, all_runs, joint_run, lined_run, run_count
from fewnames.errors import InvalidNumber, InvalidOperation, InvalidRun, TooMany
from fewnames.views.partners import (
    MAX_CHAIN, chain_between, is_chain, is_partner, last_seen, neighbors_of, partner_of, same_views, signed_sum)
from tests.samples import (
    APART, BACK, LONGEST, TOGETHER, assert_given, assert_untouched, odd_values, plain_sees, plain_view, runs_of_few)

FEW = [((4,), 0), ((4,), 3), ((0, 1), 0), ((2, 5), 1), ((2, 5), 3), ((0, 1, 2), 1), ((2, 5, 8), 2), ((0, 1, 2, 3), 1)]
NO_RUNS = [value for value in odd_values() if not isinstance(value, Run)] + [0, 1, (APART,), ((0, 1), (APART,))]


def by_other_views(threads, length, thread):
    """All runs, together with those that have the same views for all threads but this one."""
    found = {}
    for run in all_runs(threads, length):
        found.setdefault(tuple(plain_view(run, one) for one in threads if one != thread), []).append(run)
    return found.values()


def plain_seen(run, thread):
    """The indexes of the rounds in which another thread sees this one."""
    return [at for at, given in enumerate(run.rounds)
            if any(thread in plain_sees(given.blocks, other) for other in run.threads if other != thread)]


class PartnerTest(unittest.TestCase):
    def test_just_one_partner_if_the_thread_is_seen(self):
        for threads, length in FEW:
            for thread in threads:
                if len(threads) == 1:
                    continue
                for group in by_other_views(threads, length, thread):
                    self.assertIn(len(group), (1, 2))
                    one, other = group[0], group[-1]
                    if len(group) == 1:
                        self.assertEqual(plain_seen(one, thread), [])
                        self.assertIsNone(partner_of(one, thread))
                    else:
                        self.assertNotEqual(plain_seen(one, thread), [])
                        self.assertEqual(partner_of(one, thread), other)
                        self.assertEqual(partner_of(other, thread), one)
                        self.assertEqual(one.sign, -other.sign)
                        self.assertNotEqual(plain_view(one, thread), plain_view(other, thread))

    def test_the_only_thread_has_no_partner(self):
        for length in range(7):
            self.assertIsNone(partner_of(joint_run((4,), length), 4))
            self.assertEqual(neighbors_of(joint_run((4,), length)), {})

    def test_partners_of_many_threads(self):
        for run in list(all_runs((1, 3, 5, 7), 2))[::17] + list(all_runs((0, 1, 2, 3, 4), 1))[::3]:
            for thread in run.threads:
                other = partner_of(run, thread)
                if run.is_hidden(thread):
                    self.assertIsNone(other)
                else:
                    self.assertEqual(partner_of(other, thread), run)
                    self.assertEqual(other.sign, -run.sign)
                    for one in run.threads:
                        self.assertIs(plain_view(run, one) == plain_view(other, one), one != thread)

    def test_a_hidden_thread_comes_last_in_all_rounds(self):
        for run in runs_of_few():
            for thread in run.threads:
                if partner_of(run, thread) is None:
                    self.assertTrue(all(given.blocks[-1] == (thread,) for given in run))
                    if len(run.threads) > 1:
                        self.assertEqual(run.without(thread).sign, run.sign)

    def test_the_last_move(self):
        run = Run((0, 1), (TOGETHER, BACK, APART))
        self.assertEqual(partner_of(run, 1), Run((0, 1), (TOGETHER, TOGETHER, APART)))
        self.assertEqual(partner_of(run, 0), Run((0, 1), (TOGETHER, BACK, TOGETHER)))
        self.assertEqual(partner_of(Run((0, 1), (TOGETHER, APART)), 1), Run((0, 1), (BACK, APART)))

    def test_no_run_and_no_thread(self):
        run = Run((0, 1), (APART,))
        for call in (partner_of, last_seen, signed_sum):
            for value in NO_RUNS:
                for thread in (0, None):
                    self.assertRaises(InvalidRun, call, value, thread)
            for thread in odd_values() + [2, -1, LONGEST]:
                assert_given(self, InvalidNumber, "given", thread, call, run, thread)
                assert_given(self, InvalidNumber, "given", thread, call, Run((0, 1), ()), thread)
        for value in NO_RUNS:
            self.assertRaises(InvalidRun, neighbors_of, value)


class IsPartnerTest(unittest.TestCase):
    def test_all_runs_of_few(self):
        for threads, length in FEW[:-1]:
            runs = list(all_runs(threads, length))[:60]
            for thread in threads:
                for one, other in itertools.product(runs, runs):
                    same = [k for k in threads if plain_view(one, k) != plain_view(other, k)] == [thread]
                    self.assertIs(is_partner(one, thread, other), same)

    def test_values_of_any_kind(self):
        run = Run((0, 1), (APART,))
        other = Run((0, 1), (TOGETHER,))
        self.assertIs(is_partner(run, 0, other), True)
        near = [run, str(other), (other,), [other], other.rounds, TOGETHER, Run((0, 1), (BACK,)), Run((0, 1), ()),
                Run((0, 1), (TOGETHER, APART)), Run((0, 2), (Round(((0, 2),)),)), 0, 1]
        for value in odd_values() + near:
            with self.subTest(value=value):
                self.assertIs(is_partner(run, 0, value), False)
                self.assertIs(is_partner(run, 1, value), False)
                self.assertIs(is_partner(joint_run((4,), 2), 4, value), False)

    def test_wrong_runs_and_threads(self):
        for value in NO_RUNS:
            for thread in (0, None):
                self.assertRaises(InvalidRun, is_partner, value, thread, None)
        for thread in odd_values() + [2, -1]:
            for run in (Run((0, 1), (APART,)), Run((0, 1), ())):
                assert_given(self, InvalidNumber, "given", thread, is_partner, run, thread, None)


class LastSeenTest(unittest.TestCase):
    def test_last_seen(self):
        for run in runs_of_few():
            for thread in run.threads:
                self.assertEqual(last_seen(run, thread), max(plain_seen(run, thread), default=None))

    def test_the_first_round_is_no_none(self):
        self.assertEqual(last_seen(Run((0, 1), (BACK, APART)), 1), 0)
        self.assertIsNone(last_seen(Run((0, 1), (APART, APART)), 1))
        self.assertIsNone(last_seen(Run((0, 1), ()), 0))


class SameViewsTest(unittest.TestCase):
    def test_all_pairs_of_few(self):
        for threads, length in FEW[:-1]:
            runs = list(all_runs(threads, length))[:40]
            for one, other in itertools.product(runs, runs):
                same = tuple(k for k in threads if plain_view(one, k) == plain_view(other, k))
                self.assertEqual(same_views(one, other), same)
                if one != other:
                    partners = [k for k in threads if partner_of(one, k) == other]
                    self.assertEqual(len(same) == len(threads) - 1, len(threads) > 1 and len(partners) == 1)
                    if partners:
                        self.assertEqual(partners, [k for k in threads if k not in same])

    def test_no_runs(self):
        run = Run((0, 1), (APART,))
        for call in (same_views, chain_between):
            for value in NO_RUNS:
                for other in (run, None, Run((0, 2), ()), value):
                    self.assertRaises(InvalidRun, call, value, other)
                self.assertRaises(InvalidRun, call, run, value)

    def test_unlike_runs(self):
        run = Run((0, 1), (APART,))
        unlike = [Run((0, 1), ()), Run((0, 1), (APART, APART)), Run((0, 2), (Round(((0,), (2,))),)), Run((0,), (Round(((0,),)),)),
                  Run((0, 2), ())]
        for other in unlike:
            for call in (same_views, chain_between):
                self.assertRaises(InvalidOperation, call, run, other)
                self.assertRaises(InvalidOperation, call, other, run)


class NeighborsTest(unittest.TestCase):
    def test_neighbors(self):
        for run in runs_of_few() + list(all_runs((0, 1, 2, 3), 1)):
            found = neighbors_of(run)
            self.assertEqual(list(found), [one for one in run.threads if plain_seen(run, one)])
            for thread, other in found.items():
                self.assertEqual([k for k in run.threads if plain_view(run, k) != plain_view(other, k)], [thread])

    def test_a_changed_dict_changes_nothing(self):
        run = joint_run((0, 1, 2), 2)
        neighbors_of(run).clear()
        self.assertEqual(list(neighbors_of(run)), [0, 1, 2])


class SignedSumTest(unittest.TestCase):
    def test_sums(self):
        for threads, length in FEW:
            for thread in threads:
                for group in by_other_views(threads, length, thread):
                    for run in group:
                        self.assertEqual(signed_sum(run, thread), sum(one.sign for one in group))

    def test_whatever_the_others_come_to(self):
        # By point [0.15]: a number for what all threads but one see, summed over all runs.
        for threads, length in (((0, 1), 2), ((0, 1, 2), 1), ((0, 1, 2), 2)):
            for thread in threads:
                others = tuple(one for one in threads if one != thread)
                seen = [{}, {}]
                for at, runs in enumerate((all_runs(threads, length), all_runs(others, length))):
                    for run in runs:
                        key = tuple(plain_view(run, one) for one in others)
                        seen[at][key] = seen[at].get(key, 0) + run.sign
                self.assertEqual({key: many for key, many in seen[0].items() if many}, seen[1])


class ChainTest(unittest.TestCase):
    def assert_chain(self, chain, one, other):
        self.assertIs(chain.__class__, tuple)
        self.assertEqual([chain[0], chain[-1]], [one, other])
        self.assertLessEqual(len(chain), 6000)
        for this, that in zip(chain, chain[1:]):
            self.assertEqual(len([k for k in this.threads if plain_view(this, k) != plain_view(that, k)]), 1)
        self.assertIs(is_chain(chain), True)

    def test_chains_between_any_two_runs(self):
        for threads, length in FEW:
            runs = list(all_runs(threads, length))
            for one, other in list(itertools.product(runs, runs))[::max(1, len(runs) ** 2 // 150)]:
                self.assert_chain(chain_between(one, other), one, other)

    def test_no_way(self):
        for run in (Run((4,), ()), joint_run((4,), 6), Run((0, 1, 2, 3, 4), ()), joint_run((0, 1, 2), 2)):
            self.assertEqual(chain_between(run, run), (run,))

    def test_among_many_runs(self):
        for threads, length in (((0, 1), 6), ((3, 4, 9), 3), ((1, 3, 5, 7), 2), ((0, 1, 2, 3, 4), 1)):
            first = lined_run(threads, length)
            for last in (joint_run(threads, length), lined_run(threads[::-1], length)):
                self.assert_chain(chain_between(first, last), first, last)

    def test_more_than_6000_runs(self):
        for size in range(1, 6):
            for length in range(7):
                threads = (0, 1, 2, 3, 4)[:size]
                runs = (lined_run(threads, length), joint_run(threads, length))
                if run_count(size, length) > 6000:
                    for other in runs:
                        assert_given(self, TooMany, "limit", 6000, chain_between, runs[0], other)
                elif size < 3:
                    self.assert_chain(chain_between(*runs), *runs)
        many = joint_run((0, 1, 2), 4)
        self.assertRaises(InvalidOperation, chain_between, many, joint_run((0, 1, 2), 5))
        self.assertRaises(InvalidRun, chain_between, many, None)

    def test_pairs_of_few(self):
        for threads, length in FEW[:-2]:
            runs = list(all_runs(threads, length))[:60]
            for one, other in itertools.product(runs, runs):
                unlike = [k for k in threads if plain_view(one, k) != plain_view(other, k)]
                self.assertIs(is_chain((one, other)), len(unlike) == 1 and len(threads) > 1)

    def test_values_of_any_kind(self):
        run = Run((0, 1), (APART,))
        chain = (run, Run((0, 1), (TOGETHER,)), Run((0, 1), (BACK,)))
        self.assertIs(is_chain(chain), True)
        self.assertIs(is_chain((run,)), True)
        near = [(), list(chain), [run], run, (chain,), chain + (None,), (None,) + chain, chain + (run,), chain + chain[-1:],
                (run, run), (run, BACK), (BACK, run), (APART, TOGETHER), (run, partner_of(run, 0).rounds), {run.sign: run},
                (run, Run((0, 1), (APART, APART))), (run, Run((0, 2), (Round(((0, 2),)),))), (run, Run((0, 1), ()))]
        for value in near + [one for one in odd_values()] + [(one,) for one in NO_RUNS] + [(run, one) for one in NO_RUNS]:
            with self.subTest(value=value):
                self.assertIs(is_chain(value), False)

    def test_two_moves_are_no_step(self):
        run = lined_run((0, 1, 2), 2)
        there = partner_of(partner_of(run, 0), 1)
        self.assertIs(is_chain((run, there)), False)
        self.assertIs(is_chain((run, partner_of(run, 0), there)), True)

    def test_an_earlier_round_is_moved_only_if_the_thread_is_not_seen_later(self):
        self.assertIs(is_chain((Run((0, 1), (BACK, APART)), Run((0, 1), (TOGETHER, APART)))), True)
        self.assertIs(is_chain((Run((0, 1), (APART, APART)), Run((0, 1), (TOGETHER, APART)))), False)

    def test_long_chains(self):
        self.assertEqual(MAX_CHAIN, 20000)
        one = Run((0, 1), (APART,))
        other = Run((0, 1), (TOGETHER,))
        self.assertIs(is_chain((one, other) * 10000), True)
        self.assertIs(is_chain((one, other) * 10000 + (one,)), False)
        self.assertIs(is_chain((one, other) * 9999 + (one, one)), False)


class NothingSharedTest(unittest.TestCase):
    def test_arguments_stay(self):
        run = Run((0, 1), (BACK, APART))
        other = Run((0, 1), (TOGETHER, APART))
        for call in (partner_of, last_seen, signed_sum):
            for thread in (0, 1):
                assert_untouched(self, call, run, thread)
        assert_untouched(self, neighbors_of, run)
        assert_untouched(self, same_views, run, other)
        assert_untouched(self, chain_between, run, other)
        assert_untouched(self, is_chain, [run, other])
        self.assertIs(assert_untouched(self, is_partner, run, 1, other), True)


if __name__ == "__main__":
    unittest.main()
