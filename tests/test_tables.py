"""Live tables: point [11.1], and what their methods return and refuse."""

import itertools
import random
import unittest

from fewnames.base.rounds import Round, all_rounds
from fewnames.base.runs import Run, all_runs, joint_run, lined_run
from fewnames.errors import InvalidNumber, InvalidOperation, InvalidRound, InvalidThreads, NothingToUndo, TooMany
from fewnames.make.makers import shrinking_program, shrunk_names
from fewnames.make.tables import Table
from fewnames.views.views import view_of
from tests.samples import (
    APART, BACK, LONGEST, TOGETHER, TOO_LONG, assert_given, odd_values, plain_rows, plain_shrunk, some_runs)

GREAT = (0, 10 ** 20, 10 ** 40, 10 ** 59, LONGEST)
NO_ROUNDS = [one for one in odd_values() if not isinstance(one, Round)] + [0, ((0, 1),)]


def shown(table):
    """All that a table tells of itself."""
    return (
        table.threads, table.running, list(table.names.items()), list(table.places.items()), str(table.run),
        bool(table), len(table), str(table))


def plain_shown(threads, changes):
    """The same, worked out anew from all changes: rounds as rows of blocks, stops as threads."""
    running = list(threads)
    seen_rows = []
    whole = []
    for change in changes:
        if isinstance(change, int):
            running.remove(change)
        else:
            seen_rows.append(change)
            whole.append(Round(change + tuple((one,) for one in threads if one not in running)))
    names, groups = plain_shrunk(seen_rows, threads)
    places = {one: (first, direction) for group, first, direction in groups for one in group}
    waiting = any(one in places for one in running)
    return (
        threads, tuple(running), [(one, names.get(one)) for one in threads], sorted(places.items()),
        str(Run(threads, tuple(whole))), waiting, len(whole),
        f"table of {len(threads)} threads: {len(whole)} rounds, {len(names)} named")


def replayed(threads, changes):
    """A new table with these changes."""
    table = Table(threads)
    for change in changes:
        if isinstance(change, int):
            table.stop(change)
        else:
            table.go(Round(change))
    return table


def some_change(table, pick):
    """A change that the table lets, at random, or None."""
    if len(table.running) > 1 and pick.random() < 0.25:
        return pick.choice(table.running)
    return pick.choice(plain_rows(table.running)) if len(table) < 6 else None


class NewTableTest(unittest.TestCase):
    def test_at_first(self):
        for threads in ((0,), (7,), (0, 1), (3, 5, 8), GREAT[:4], GREAT):
            table = Table(threads)
            self.assertEqual([table.threads, table.running], [threads, threads])
            self.assertEqual(list(table.names.items()), [(one, None) for one in threads])
            self.assertEqual(list(table.places.items()), [(one, (1, 1)) for one in threads])
            self.assertEqual(table.run, Run(threads, ()))
            self.assertEqual([bool(table), len(table)], [True, 0])
            self.assertEqual(str(table), f"table of {len(threads)} threads: 0 rounds, 0 named")

    def test_no_threads(self):
        for threads in [one for one in odd_values() if one not in ((0,), (0, 1))] + [
                0, (1, 0), (0, 0), (0, 1, 2, 3, 4, 5), (-1, 0), (0, TOO_LONG), (0, True), [0, 1]]:
            self.assertRaises(InvalidThreads, Table, threads)

    def test_properties_have_no_setter(self):
        for name in ("threads", "running", "names", "places", "run"):
            self.assertRaises(AttributeError, setattr, Table((0, 1)), name, None)

    def test_no_iteration(self):
        self.assertRaises(TypeError, iter, Table((0, 1)))


class GoTest(unittest.TestCase):
    def test_by_hand(self):
        table = Table((2, 4, 7))
        self.assertEqual(table.go(Round(((2, 4), (7,)))), {4: 3, 7: 5})
        self.assertEqual([table.places, table.names], [{2: (2, -1)}, {2: None, 4: 3, 7: 5}])
        self.assertEqual([bool(table), str(table)], [True, "table of 3 threads: 1 rounds, 2 named"])
        self.assertEqual(table.go(Round(((7,), (4,), (2,)))), {2: 2})
        self.assertEqual([table.places, bool(table)], [{}, False])
        self.assertEqual(table.go(Round(((2, 4, 7),))), {})
        self.assertEqual(table.names, {2: 2, 4: 3, 7: 5})

    def test_one_thread(self):
        table = Table((9,))
        self.assertEqual([table.go(Round(((9,),))), table.names, bool(table)], [{9: 1}, {9: 1}, False])
        for _ in range(5):
            self.assertEqual(table.go(Round(((9,),))), {})
        assert_given(self, TooMany, "limit", 6, table.go, Round(((9,),)))

    def test_all_short_histories(self):
        for threads, length in (((4,), 3), ((0, 1), 3), ((2, 3, 5), 2)):
            for rounds in itertools.product(plain_rows(threads), repeat=length):
                table = Table(threads)
                names = {}
                for at, blocks in enumerate(rounds):
                    taken = table.go(Round(blocks))
                    self.assertEqual(list(taken), sorted(taken))
                    self.assertFalse(set(taken) & set(names))
                    names.update(taken)
                    self.assertEqual(shown(table), plain_shown(threads, rounds[:at + 1]))
                    self.assertEqual(names, {one: name for one, name in table.names.items() if name is not None})

    def test_random_histories(self):
        pick = random.Random(11)
        for size in (2, 3, 4, 5):
            for _ in range(60):
                threads = tuple(sorted(pick.sample(range(30), size)))
                table, changes = Table(threads), []
                while change := some_change(table, pick):
                    changes.append(change)
                    before = table.names
                    if isinstance(change, int):
                        self.assertEqual(table.stop(change), before[change])
                    else:
                        taken = table.go(Round(change))
                        self.assertEqual({**before, **taken}, table.names)
                    self.assertEqual(shown(table), plain_shown(threads, changes))
                    told = [name for name in table.names.values() if name is not None]
                    self.assertEqual(len(told), len(set(told)))
                    self.assertTrue(all(1 <= name <= 2 * size - 1 for name in told))
                    if len(table) >= size:
                        self.assertTrue(all(table.names[one] is not None for one in table.running))
                        self.assertIs(bool(table), False)

    def test_names_stay(self):
        pick = random.Random(5)
        for _ in range(100):
            table = Table((1, 2, 3, 4))
            while len(table) < 6:
                before = {one: name for one, name in table.names.items() if name is not None}
                table.go(Round(pick.choice(plain_rows((1, 2, 3, 4)))))
                self.assertEqual({one: table.names[one] for one in before}, before)

    def test_a_table_that_follows_a_run(self):
        runs = [run for size, length in ((1, 0), (1, 6), (2, 1), (2, 3), (3, 2)) for run in all_runs((0, 5, 6)[:size], length)]
        runs += some_runs((0, 5, 6), 5, 13 ** 5 // 200) + some_runs((1, 2, 3, 4), 3, 1999) + some_runs(GREAT, 4, 541 ** 4 // 200)
        for run in runs:
            table = Table(run.threads)
            for given in run:
                table.go(given)
            names = shrunk_names(run)
            self.assertEqual(table.run, run)
            for one in run.threads:
                self.assertIn(table.names[one], (names[one], None))
                if table.names[one] is None:
                    # It waits for one round more, in which it would be alone in its group.
                    self.assertEqual(table.places[one][0], names[one])
            if len(run) >= len(run.threads):
                self.assertEqual(table.names, names)

    def test_the_names_of_the_shrinking_program(self):
        program = shrinking_program(3)
        for run in all_runs((2, 3, 5), 2):
            table = Table((2, 3, 5))
            for given in run:
                table.go(given)
            table.finish()
            self.assertEqual(table.names, program.names_in(run))

    def test_no_round_on_the_running_threads(self):
        table = Table((0, 1))
        for extra in NO_ROUNDS + [Round(((0,),)), Round(((0, 1, 2),)), Round(((0,), (2,))), joint_run((0, 1), 1)]:
            self.assertRaises(InvalidRound, table.go, extra)
        table.stop(1)
        for extra in (TOGETHER, APART, BACK, Round(((1,),))):
            self.assertRaises(InvalidRound, table.go, extra)
        self.assertEqual(shown(table), plain_shown((0, 1), [1]))

    def test_a_seventh_round(self):
        table = Table((0, 1))
        for at in range(6):
            self.assertEqual(len(table), at)
            table.go(APART)
        before = shown(table)
        assert_given(self, TooMany, "limit", 6, table.go, APART)
        for extra in (None, Round(((0,),))):
            self.assertRaises(InvalidRound, table.go, extra)
        self.assertEqual(shown(table), before)
        table.undo()
        self.assertEqual(table.go(BACK), {})

    def test_what_is_returned_is_not_shared(self):
        table = Table((0, 1))
        table.go(TOGETHER)[1] = 7
        table.names[0] = 9
        table.places.clear()
        self.assertEqual([table.names, table.places], [{0: None, 1: 3}, {0: (2, -1)}])


class StopTest(unittest.TestCase):
    def test_by_hand(self):
        table = Table((1, 4, 6))
        self.assertEqual([table.go(Round(((1, 4), (6,)))), table.stop(4), table.running], [{4: 3, 6: 5}, 3, (1, 6)])
        self.assertEqual([4 in table, 1 in table, True in table, bool(table)], [False, True, False, True])
        self.assertEqual([table.stop(1), table.running, bool(table)], [None, (6,), False])
        self.assertEqual([table.names, table.places], [{1: None, 4: 3, 6: 5}, {1: (2, -1)}])
        self.assertEqual(table.go(Round(((6,),))), {})
        self.assertEqual(str(table.run), "run of 3 threads: 1 4|6, 6|1|4")
        self.assertEqual(str(table), "table of 3 threads: 2 rounds, 2 named")

    def test_those_that_had_stopped_come_last_ascending(self):
        for order in itertools.permutations((1, 2, 3)):
            table = Table((1, 2, 3, 4))
            for at, one in enumerate(order):
                table.stop(one)
                table.go(Round((table.running,)))
                stopped = tuple((other,) for other in sorted(order[:at + 1]))
                self.assertEqual(table.run[at].blocks, (table.running,) + stopped)

    def test_a_thread_that_stops_is_like_one_that_comes_last(self):
        pick = random.Random(3)
        for _ in range(150):
            table, other = Table((0, 1, 2, 3)), Table((0, 1, 2, 3))
            stopped = []
            while len(table) < 4:
                if len(stopped) < 3 and pick.random() < 0.3:
                    stopped.append(pick.choice(table.running))
                    table.stop(stopped[-1])
                blocks = pick.choice(plain_rows(table.running))
                table.go(Round(blocks))
                pick.shuffle(stopped)
                other.go(Round(blocks + tuple((one,) for one in stopped)))
                for one in table.running:
                    self.assertEqual([table.names[one], table.places.get(one)], [other.names[one], other.places.get(one)])

    def test_by_views_alone(self):
        told = {}
        pick = random.Random(8)
        for _ in range(300):
            table = Table((0, 2, 3, 9))
            while (change := some_change(table, pick)) and len(table) < 4:
                table.stop(change) if isinstance(change, int) else table.go(Round(change))
                for one in table.running:
                    state = (table.names[one], table.places.get(one))
                    self.assertEqual(told.setdefault(view_of(table.run, one), state), state)

    def test_wrong_threads(self):
        table = Table((0, 1, 2))
        table.stop(1)
        for thread in [1, 3, -1, LONGEST] + odd_values():
            assert_given(self, InvalidNumber, "given", thread, table.stop, thread)
        self.assertEqual(shown(table), plain_shown((0, 1, 2), [1]))

    def test_the_only_one(self):
        for table in (Table((0,)), replayed((0, 1), [1])):
            before = shown(table)
            self.assertRaises(InvalidOperation, table.stop, 0)
            for thread in (1, True, None):
                assert_given(self, InvalidNumber, "given", thread, table.stop, thread)
            self.assertEqual(shown(table), before)


class FinishTest(unittest.TestCase):
    def test_by_hand(self):
        for threads in ((3,), (3, 4), (3, 4, 6), GREAT[:4], GREAT):
            table = Table(threads)
            self.assertEqual(table.finish(), len(threads))
            self.assertEqual(table.run, joint_run(threads, len(threads)))
            self.assertEqual(table.names, shrunk_names(joint_run(threads, len(threads))))
            other = Table(threads)
            self.assertEqual(other.finish(joint=False), 1)
            self.assertEqual(other.run, lined_run(threads, 1))
            self.assertEqual(list(other.names.values()), [2 * at + 1 for at in range(len(threads))])
            self.assertEqual([table.finish(), other.finish(joint=True), len(other)], [0, 0, 1])

    def test_those_that_have_stopped_need_no_name(self):
        table = Table((1, 2, 3))
        table.stop(2)
        self.assertEqual([table.finish(joint=False), table.names], [1, {1: 1, 2: None, 3: 3}])
        self.assertEqual([str(table.run), bool(table)], ["run of 3 threads: 1|3|2", False])
        other = replayed((1, 2, 3), [((1, 2, 3),), 1, 2])
        self.assertEqual([other.finish(), len(other), other.places], [0, 1, {1: (4, -1), 2: (4, -1)}])

    def test_against_rounds_by_hand(self):
        pick = random.Random(17)
        for _ in range(80):
            changes = []
            table = Table((0, 1, 2, 5, 8))
            for _ in range(pick.randrange(5)):
                changes.append(some_change(table, pick))
                table = replayed((0, 1, 2, 5, 8), changes)
            for joint in (True, False):
                twin, other = table.twin(), table.twin()
                done = 0
                while len(other) < 6 and any(other.names[one] is None for one in other.running):
                    blocks = (other.running,) if joint else tuple((one,) for one in other.running)
                    other.go(Round(blocks))
                    done += 1
                self.assertEqual([twin.finish(joint=joint), shown(twin)], [done, shown(other)])

    def test_at_most_six_rounds(self):
        # So many rounds always give a name to all.
        table = Table(GREAT)
        for _ in range(5):
            table.go(Round((GREAT,)))
        self.assertEqual([table.finish(), len(table)], [0, 5])
        table.go(Round((GREAT,)))
        self.assertEqual([table.finish(), table.finish(joint=False), len(table)], [0, 0, 6])

    def test_each_round_is_a_change(self):
        table = Table((0, 1, 2))
        self.assertEqual([table.finish(), table.undo(), len(table), table.names[2]], [3, (0, 1, 2), 2, 5])
        self.assertEqual(table.names, {0: None, 1: 2, 2: 5})
        self.assertEqual([table.finish(joint=False), table.names], [1, {0: 3, 1: 2, 2: 5}])
        self.assertEqual([table.undo(many=3), len(table)], [(0, 1, 2), 0])
        assert_given(self, NothingToUndo, "many", 1, table.undo)

    def test_no_flag(self):
        table = Table((0, 1))
        for joint in [one for one in odd_values() if one is not True and one is not False] + [0, 1]:
            with self.assertRaises(InvalidOperation):
                table.finish(joint=joint)
        self.assertRaises(TypeError, table.finish, True)
        self.assertEqual(shown(table), plain_shown((0, 1), []))


class UndoTest(unittest.TestCase):
    def test_by_hand(self):
        table = replayed((1, 2, 3), [((1, 2), (3,)), 3, ((2,), (1,))])
        self.assertEqual(table.undo(many=0), (1, 2))
        self.assertEqual([table.undo(), len(table), table.names], [(1, 2), 1, {1: None, 2: 3, 3: 5}])
        self.assertEqual([table.undo(), table.running], [(1, 2, 3), (1, 2, 3)])
        self.assertEqual([table.undo(many=1), shown(table)], [(1, 2, 3), plain_shown((1, 2, 3), [])])

    def test_histories_taken_back_and_done_otherwise(self):
        pick = random.Random(2)
        for size in (1, 2, 3, 5):
            threads = (2, 3, 5, 7, 11)[:size]
            for _ in range(40):
                table, changes, twins = Table(threads), [], []
                for _ in range(15):
                    if pick.random() < 0.35:
                        many = pick.randrange(len(changes) + 1)
                        changes = changes[:len(changes) - many]
                        self.assertEqual(table.undo(many=many), plain_shown(threads, changes)[1])
                    elif change := some_change(table, pick):
                        changes.append(change)
                        table.stop(change) if isinstance(change, int) else table.go(Round(change))
                    self.assertEqual(shown(table), plain_shown(threads, changes))
                    self.assertEqual(table, replayed(threads, changes))
                    twins.append((table.twin(), list(changes)))
                for twin, past in twins:
                    self.assertEqual(shown(twin), plain_shown(threads, past))
                    twin.undo(many=len(past))
                    self.assertEqual(shown(twin), plain_shown(threads, []))

    def test_elder_results_stay(self):
        table = Table((0, 1, 2))
        names, places, run = table.names, table.places, table.run
        taken = table.go(Round(((0, 1, 2),)))
        table.finish()
        table.undo(many=3)
        self.assertEqual([names, places, run], [dict.fromkeys((0, 1, 2)), dict.fromkeys((0, 1, 2), (1, 1)), Run((0, 1, 2), ())])
        self.assertEqual(taken, {2: 5})

    def test_wrong_numbers(self):
        table = replayed((0, 1), [((0, 1),), 1])
        before = shown(table)
        for many in [-1, -LONGEST] + odd_values():
            with self.assertRaises(InvalidNumber) as caught:
                table.undo(many=many)
            self.assertIs(caught.exception.given, many)
        for many in (3, 4, LONGEST):
            with self.assertRaises(NothingToUndo) as caught:
                table.undo(many=many)
            self.assertEqual(caught.exception.many, many)
        self.assertRaises(TypeError, table.undo, 1)
        self.assertEqual(shown(table), before)
        table.undo(many=2)
        assert_given(self, NothingToUndo, "many", 1, table.undo)
        self.assertEqual(table.undo(many=0), (0, 1))


class TwinTest(unittest.TestCase):
    def test_each_goes_on_by_itself(self):
        table = replayed((0, 1, 2), [((0, 1), (2,))])
        twin = table.twin()
        self.assertEqual(twin, table)
        table.stop(0)
        twin.go(Round(((0, 1, 2),)))
        self.assertEqual(shown(table), plain_shown((0, 1, 2), [((0, 1), (2,)), 0]))
        self.assertEqual(shown(twin), plain_shown((0, 1, 2), [((0, 1), (2,)), ((0, 1, 2),)]))
        self.assertNotEqual(twin, table)
        self.assertEqual([twin.undo(many=2), table.undo(), twin == table], [(0, 1, 2), (0, 1, 2), False])
        self.assertEqual([table.undo(), twin == table], [(0, 1, 2), True])

    def test_equal_tables(self):
        one = replayed((0, 1), [((0,), (1,))])
        self.assertTrue(one == replayed((0, 1), [((0,), (1,))]))
        # Who stops behind the round changes who runs; who stopped ahead of it gives the same run.
        other = replayed((0, 1), [1, ((0,),)])
        self.assertEqual(one.run, other.run)
        self.assertFalse(one == other)
        self.assertTrue(other != one)
        one.stop(1)
        self.assertTrue(one == other)
        self.assertNotEqual(Table((0, 1)), Table((0, 2)))
        self.assertNotEqual(Table((0, 1)), replayed((0, 1), [1]))
        self.assertNotEqual(Table((0, 1)), replayed((0, 1), [((0, 1),)]))

    def test_other_values(self):
        for value in [one for one in odd_values() if not isinstance(one, Table)] + [0, (0, 1)]:
            self.assertIs(Table((0, 1)) == value, False)
            self.assertIs(Table((0, 1)) != value, True)


class InTest(unittest.TestCase):
    def test_running_threads(self):
        table = replayed((0, 1, 5), [1])
        self.assertEqual([one for one in range(-1, 7) if one in table], [0, 5])
        for value in odd_values() + [LONGEST]:
            self.assertIs(value in table, False)

    def test_all_rounds_can_be_gone(self):
        for threads in ((1,), (1, 2), (1, 2, 3), (1, 2, 3, 4)):
            for given in all_rounds(threads):
                table = Table(threads)
                taken = table.go(given)
                greatest = [one for one in threads if max(given.sees(one)) == one]
                self.assertEqual(list(taken), greatest)
                self.assertEqual([taken[one] for one in greatest], [2 * len(given.sees(one)) - 1 for one in greatest])


if __name__ == "__main__":
    unittest.main()
