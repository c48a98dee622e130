"""Views and patterns: points [0.10], [0.11], [3.1] and [3.2], and what their functions return and refuse."""

import itertools
import unittest

from fewnames.base.rounds import Round, all_rounds
from fewnames.base.runs import Run, all_runs, joint_run, lined_run
from fewnames.errors import InvalidNumber, InvalidOperation, InvalidRun, InvalidView, TooMany
from fewnames.views.views import (
    MAX_PATTERNS, ROW_COUNTS, all_patterns, carrier_of, is_pattern, is_view, pattern_count, pattern_of, renamed_view, run_with,
    view_of, views_of)
from tests.samples import (
    APART, BACK, LONGEST, TOGETHER, TOO_LONG, assert_given, assert_untouched, odd_values, plain_carrier, plain_pattern,
    plain_renamed, plain_rows, plain_sees, plain_view, runs_of_few)

# All sizes and lengths with at most 1200 patterns, and how many there are.
COUNTS = {
    **{(1, length): 1 for length in range(7)}, **{(2, length): 3 ** length for length in range(7)},
    (3, 0): 1, (3, 1): 6, (3, 2): 81, (3, 3): 1086, (4, 0): 1, (4, 1): 10, (4, 2): 865, (5, 0): 1, (5, 1): 15,
}
# Views of each kind: few and many threads, few and many rounds, far old names.
VIEWS = [
    (7, ()), (LONGEST, ()), (1, (((1, (0, 1)),),)), (7, (((7, (4, 7)),),)), (2, (((2, (0, 1, 2, 3, 4)),),)),
    (0, (((0, (0, 1)),), ((0, (0,)), (1, (0, 1))))), (5, (((5, (5, LONGEST)),), ((5, (3, 5)), (LONGEST, (3, 5, LONGEST))))),
    view_of(joint_run((1, 3, 5, 7, 9), 6), 9), view_of(lined_run((9, 1, 7, 3, 5), 6), 5), (3, (((3, (3,)),),) * 6),
]


def plain_views(threads, length):
    """All views behind so many rounds with carriers among these threads."""
    return {plain_view(run, one) for run in all_runs(threads, length) for one in threads}


def spoilt(view):
    """Values that differ from the view at one place."""
    thread, rows = view
    for other in (thread + 1, thread - 1, True, False, None, (thread,), str(thread), TOO_LONG):
        yield (other, rows)
    yield from [[thread, rows], (thread, list(rows)), (thread,), (thread, rows, ()), (rows, thread), (thread, None)]
    for at, row in enumerate(rows):
        for other in spoilt_rows(row):
            yield (thread, rows[:at] + (other,) + rows[at + 1:])
        yield (thread, rows[:at] + rows[at + 1:])
        yield (thread, rows[:at] + (row, row) + rows[at + 1:])
    yield (thread, rows[::-1])
    yield (thread, rows + (((thread, (thread,)),),))


def spoilt_rows(row):
    """Values that differ from the row at one place."""
    yield from [list(row), (), row[::-1], row + row, None, str(row), {pair[0]: pair[1] for pair in row}]
    for at, pair in enumerate(row):
        yield row[:at] + row[at + 1:]
        for other in spoilt_pairs(pair):
            yield row[:at] + (other,) + row[at + 1:]


def spoilt_pairs(pair):
    """Values that differ from the pair at one place."""
    one, seen = pair
    yield from [list(pair), (one,), (one, seen, seen), (seen, one), None, (one, list(seen)), (one, ()), (one, one)]
    for other in (one + 1, one - 1, bool(one), None, str(one), TOO_LONG):
        yield (other, seen)
    for at, two in enumerate(seen):
        yield (one, seen[:at] + seen[at + 1:])
        yield (one, seen[:at] + (two,) + seen[at:])
        for other in (two + 1, two - 1, bool(two), None, str(two), (two,), TOO_LONG):
            yield (one, seen[:at] + (other,) + seen[at + 1:])
    yield (one, seen[::-1])
    for other in (0, 1, 2, 3, 90, -1):
        yield (one, tuple(sorted(seen + (other,))))


class ViewOfTest(unittest.TestCase):
    def test_views_are_written_row_by_row(self):
        line = lined_run((2, 0, 1), 2)
        self.assertEqual(view_of(line, 2), (2, (((2, (2,)),), ((2, (2,)),))))
        self.assertEqual(view_of(line, 0), (0, (((0, (0, 2)),), ((0, (0, 2)), (2, (2,))))))
        taken = Run((3, 5, 8), (Round(((8,), (3,), (5,))), Round(((3,), (5, 8)))))
        self.assertEqual(view_of(taken, 3), (3, (((3, (3,)),), ((3, (3, 8)),))))
        self.assertEqual(view_of(taken, 8), (8, (((8, (3, 5, 8)),), ((3, (3, 8)), (5, (3, 5, 8)), (8, (8,))))))

    def test_no_round(self):
        for threads in ((0,), (4, 9), (0, 1, 2, 3, 4)):
            self.assertEqual(views_of(Run(threads, ())), tuple((one, ()) for one in threads))

    def test_all_views_of_few(self):
        for run in runs_of_few():
            views = tuple(plain_view(run, one) for one in run.threads)
            self.assertEqual(views_of(run), views)
            self.assertEqual(tuple(view_of(run, one) for one in run.threads), views)

    def test_all_views_of_many(self):
        for run in list(all_runs((1, 3, 5, 7), 2))[::7] + list(all_runs((0, 1, 2, 3, 4), 1)):
            for one in run.threads:
                self.assertEqual(view_of(run, one), plain_view(run, one))

    def test_a_view_tells_who_is_known(self):
        for run in runs_of_few():
            for one in run.threads:
                self.assertEqual(carrier_of(view_of(run, one)), run.known(one))

    def test_no_run(self):
        for value in odd_values():
            if not isinstance(value, Run):
                with self.subTest(value=value):
                    self.assertRaises(InvalidRun, view_of, value, 0)
                    self.assertRaises(InvalidRun, view_of, value, None)
                    self.assertRaises(InvalidRun, views_of, value)

    def test_no_thread_of_the_run(self):
        for value in odd_values() + [2, -1, LONGEST]:
            for run in (Run((0, 1), ()), Run((0, 1), (APART,))):
                with self.subTest(value=value):
                    assert_given(self, InvalidNumber, "given", value, view_of, run, value)


class CarrierTest(unittest.TestCase):
    def test_carriers(self):
        self.assertEqual([carrier_of(view) for view in VIEWS[:7]], [
            (7,), (LONGEST,), (0, 1), (4, 7), (0, 1, 2, 3, 4), (0, 1), (3, 5, LONGEST)])

    def test_all_carriers_of_few(self):
        for run in runs_of_few():
            for view in views_of(run):
                self.assertEqual(carrier_of(view), plain_carrier(view))

    def test_no_view(self):
        for value in odd_values() + [1, (0, (((0, (1,)),),)), [0, ()]]:
            with self.subTest(value=value):
                self.assertRaises(InvalidView, carrier_of, value)
                self.assertRaises(InvalidView, pattern_of, value)
                self.assertRaises(InvalidView, run_with, value)


class PatternTest(unittest.TestCase):
    def test_patterns(self):
        self.assertEqual(pattern_of((7, ())), (0, ()))
        self.assertEqual(pattern_of((7, (((7, (4, 7)),),))), (1, (((1, (0, 1)),),)))
        self.assertEqual(pattern_of((8, (((8, (3, 5, 8)),), ((3, (3, 8)), (5, (3, 5, 8)), (8, (8,)))))),
                         (2, (((2, (0, 1, 2)),), ((0, (0, 2)), (1, (0, 1, 2)), (2, (2,))))))

    def test_all_patterns_of_few(self):
        for run in runs_of_few():
            for view in views_of(run):
                pattern = pattern_of(view)
                self.assertEqual(pattern, plain_pattern(view))
                self.assertEqual(carrier_of(pattern), tuple(range(len(carrier_of(view)))))
                self.assertIs(is_pattern(pattern), True)
                self.assertIs(is_pattern(view), view == pattern)
                self.assertEqual(pattern_of(pattern), pattern)

    def test_a_pattern_stays_if_the_order_stays(self):
        for run in runs_of_few() + list(all_runs((0, 1, 2, 3, 4), 1))[::9]:
            later = run.renamed({one: 7 * one + 3 for one in run.threads})
            for one in run.threads:
                self.assertEqual(pattern_of(view_of(later, 7 * one + 3)), pattern_of(view_of(run, one)))

    def test_no_pattern(self):
        wrong = [
            (1, ()), (7, ()), (0, (((0, (0, 2)),),)), (1, (((1, (1,)),),)), (1, (((1, (1, 2)),),)), (True, ()), (False, ()),
            (0, (((0, (False, 1)),),)), (0, (((0, (0, True)),),)), (0, (((False, (0, 1)),),)), [0, ()], (0, []), (0,), 0,
        ]
        for value in wrong + odd_values():
            with self.subTest(value=value):
                self.assertIs(is_pattern(value), False)


class IsViewTest(unittest.TestCase):
    def test_views(self):
        for view in VIEWS:
            with self.subTest(view=view):
                self.assertIs(is_view(view), True)

    def test_views_of_runs(self):
        for run in runs_of_few() + list(all_runs((0, 1, 2, 3), 2))[::11] + list(all_runs((1, 2, 4, 8, 16), 1)):
            for view in views_of(run):
                self.assertIs(is_view(view), True)

    def test_values_of_any_kind(self):
        for value in odd_values() + [0, 1, (0, 0), ((0, ()),), "(0, ())"]:
            for other in (value, (value, ()), (0, value), (0, (value,)), (0, ((value,),)), (0, (((0, value),),)),
                          (0, (((0, (0, value)),),)), (0, (((value, (0,)),),))):
                right = repr(other) in ("(0, ())", "(1, ())", "(0, (((0, (0,)),),))", "(0, (((0, (0, 1)),),))")
                with self.subTest(value=other):
                    self.assertIs(is_view(other), right)

    def test_two_listed_threads(self):
        def told(zero, one):
            return is_view((0, (((0, (0, 1)),), ((0, zero), (1, one)))))

        self.assertIs(told((0,), (0, 1)), True)
        self.assertIs(told((0, 1), (0, 1)), True)
        self.assertIs(told((0, 1), (1,)), True)
        self.assertIs(told((0, 2), (0, 1, 2)), True)
        self.assertIs(told((0,), (1,)), False)
        self.assertIs(told((0, 1), (0,)), False)
        self.assertIs(told((0, 2), (0, 1)), False)
        self.assertIs(told((0, 1, 2), (0, 1)), False)
        self.assertIs(told((0, 1), (0, 1, 2)), False)

    def test_all_rows_of_three_threads(self):
        sights = [seen for many in range(4) for seen in itertools.combinations(range(3), many)]
        right = {repr(view) for view in plain_views((0, 1, 2), 2)}
        for thread in range(3):
            for first in sights:
                for row in itertools.product(sights, repeat=len(first)):
                    value = (thread, (((thread, first),), tuple(zip(first, row))))
                    self.assertIs(is_view(value), repr(value) in right)

    def test_all_rows_of_four_threads(self):
        threads = (0, 1, 2, 3)
        right = {tuple(plain_sees(blocks, one) for one in threads) for blocks in plain_rows(threads)}
        sights = [[seen for many in range(5) for seen in itertools.combinations(threads, many) if one in seen]
                  for one in threads]
        for row in itertools.product(*sights):
            value = (2, (((2, threads),), tuple(zip(threads, row))))
            self.assertIs(is_view(value), row in right)

    def test_spoilt_views(self):
        right = {length: {repr(view) for view in plain_views((0, 1, 2, 3), length)} for length in (0, 1, 2)}
        right[3] = {repr(view) for view in plain_views((0, 1, 2), 3)}
        views = list(plain_views((0, 1, 2), 1)) + list(plain_views((0, 1, 2), 2))
        for view in views:
            for value in spoilt(view):
                text = repr(value)
                if "90" in text:
                    text = text.replace("90", "3")
                self.assertIs(is_view(value), any(text in known for known in right.values()), value)

    def test_depths(self):
        view = (3, (((3, (3, 5)),), ((3, (3,)), (5, (3, 5)))))
        for value in ((view,), (3, view), (3, (view[1],)), (3, view[1][0]), (3, ((3, (3, 5)),)), (3, (((3, 3),),)),
                      (3, (((3, ((3,),)),),)), ((3, 3), view[1]), (3, (3, 5)), (3, 5)):
            with self.subTest(value=value):
                self.assertIs(is_view(value), False)

    def test_seven_rows(self):
        for size in (1, 2, 5):
            rows = view_of(joint_run((0, 1, 2, 3, 4)[:size], 6), 0)[1]
            self.assertIs(is_view((0, rows)), True)
            self.assertIs(is_view((0, rows + rows[-1:])), False)

    def test_six_threads(self):
        self.assertIs(is_view((0, (((0, (0, 1, 2, 3, 4)),),))), True)
        self.assertIs(is_view((0, (((0, (0, 1, 2, 3, 4, 5)),),))), False)
        five = (0, 1, 2, 3, 4)
        self.assertIs(is_view((0, (((0, five),), tuple((one, five) for one in five)))), True)
        self.assertIs(is_view((0, (((0, five),), tuple((one, five + (5,)) for one in five)))), False)
        self.assertIs(is_view((0, (((0, (0, 1, 2)),), ((0, (0, 3)), (1, (0, 1, 2, 3, 4)), (2, (0, 1, 2, 3, 4, 5)))))), False)

    def test_no_old_names(self):
        for value in ((-1, ()), (TOO_LONG, ()), (-1, (((-1, (-1, 0)),),)), (0, (((0, (0, TOO_LONG)),),)),
                      (0, (((0, (-1, 0)),),))):
            self.assertIs(is_view(value), False)
        self.assertIs(is_view((0, (((0, (0, LONGEST)),),))), True)


class PointTest(unittest.TestCase):
    def test_ahead_of_the_last_round_is_known_what_those_knew_that_were_seen(self):
        for run in runs_of_few():
            if len(run):
                ahead = run.shortened(len(run) - 1)
                for one in run.threads:
                    knew = [view_of(ahead, other)[1] for other in run[len(run) - 1].sees(one)]
                    rows = tuple(tuple(sorted(set().union(*row))) for row in zip(*knew))
                    self.assertEqual(view_of(run, one)[1][1:], rows)

    def test_all_views_together_tell_the_run(self):
        for threads, length in (((0, 1), 3), ((0, 1, 2), 2), ((0, 1, 2, 3), 1), ((0, 1, 2, 3, 4), 1)):
            views = [views_of(run) for run in all_runs(threads, length)]
            self.assertEqual(len(set(views)), len(views))


class RunWithTest(unittest.TestCase):
    def test_the_thread_has_the_view_behind_the_run(self):
        for view in VIEWS + [view for run in runs_of_few() for view in views_of(run)]:
            run = run_with(view)
            self.assertEqual(run.threads, plain_carrier(view))
            self.assertEqual(len(run), len(view[1]))
            self.assertEqual(plain_view(run, view[0]), view)

    def test_all_patterns(self):
        for size, length in ((5, 1), (4, 2), (3, 3), (2, 5)):
            for pattern in all_patterns(size, length):
                self.assertEqual(view_of(run_with(pattern), pattern[0]), pattern)

    def test_no_round(self):
        self.assertEqual(run_with((4, ())), Run((4,), ()))


class RenamedTest(unittest.TestCase):
    def test_renamed(self):
        view = (0, (((0, (0, 1)),), ((0, (0,)), (1, (0, 1)))))
        self.assertEqual(renamed_view(view, {0: 9, 1: 4}), (9, (((9, (4, 9)),), ((4, (4, 9)), (9, (9,))))))
        self.assertEqual(renamed_view(view, {1: 4, 0: 9}), renamed_view(view, {0: 9, 1: 4}))
        self.assertEqual(renamed_view(view, {0: 0, 1: 1}), view)
        self.assertEqual(renamed_view((0, ()), {0: LONGEST}), (LONGEST, ()))

    def test_a_renamed_view_is_that_of_the_renamed_run(self):
        for run in runs_of_few():
            for view in views_of(run):
                for names in ({2: 2, 5: 8, 8: 5}, {2: 9, 5: 3, 8: 0}, {2: 1, 5: 0, 8: LONGEST}):
                    part = {one: names[one] for one in plain_carrier(view)}
                    found = renamed_view(view, part)
                    self.assertEqual(found, plain_renamed(view, part))
                    self.assertEqual(found, view_of(run.renamed({one: names[one] for one in run.threads}), names[view[0]]))

    def test_no_view(self):
        for value in odd_values() + [0, (0, (((0, (1,)),),))]:
            for names in ({0: 1}, {}, None):
                with self.subTest(value=value):
                    self.assertRaises(InvalidView, renamed_view, value, names)

    def test_no_such_dict(self):
        wrong = odd_values() + [
            {4: 5}, {4: 5, 8: 6}, {4: 5, 7: 6, 8: 9}, {4: 5, 7: 5}, {4: 5, "7": 6}, {4: 5, 7: True}, {4: False, 7: 5},
            {4: -1, 7: 6}, {4: TOO_LONG, 7: 6}, {4: None, 7: 6}, {4: [5], 7: 6}, {4: (5,), 7: 6}, [(4, 5), (7, 6)], [5, 6],
        ]
        for names in wrong:
            with self.subTest(names=names):
                self.assertRaises(InvalidOperation, renamed_view, (7, (((7, (4, 7)),),)), names)
        self.assertRaises(InvalidOperation, renamed_view, (1, ()), {True: 0})
        self.assertRaises(InvalidOperation, renamed_view, (1, ()), {1: 0, 2: 3})


class AllPatternsTest(unittest.TestCase):
    def test_all_patterns_are_met_in_runs(self):
        for size, length in ((1, 6), (2, 0), (2, 4), (3, 1), (3, 2), (3, 3), (4, 1), (4, 2), (5, 0), (5, 1)):
            with self.subTest(size=size, length=length):
                runs = all_runs(tuple(range(size)), length)
                met = {plain_pattern(view) for view in {view for run in runs for view in views_of(run)}}
                self.assertEqual(all_patterns(size, length), tuple(sorted(met)))

    def test_counts(self):
        self.assertEqual(MAX_PATTERNS, 1200)
        for (size, length), many in COUNTS.items():
            self.assertEqual(pattern_count(size, length), many)
            patterns = all_patterns(size, length)
            self.assertEqual(len(patterns), many)
            self.assertEqual(patterns, tuple(sorted(set(patterns))))
            self.assertTrue(all(is_pattern(one) for one in patterns))

    def test_one_round(self):
        for size in range(1, 6):
            self.assertEqual(pattern_count(size, 1), size * (size + 1) // 2)
            self.assertEqual(all_patterns(size, 1), tuple(sorted(
                (rank, (((rank, tuple(range(many))),),)) for many in range(1, size + 1) for rank in range(many))))

    def test_one_thread(self):
        for length in range(7):
            self.assertEqual(all_patterns(1, length), ((0, (((0, (0,)),),) * length),))

    def test_rows_are_counted_right(self):
        for many in range(1, 6):
            threads = tuple(range(many))
            for less in range(1, many + 1):
                rows = {tuple(plain_sees(blocks, one) for one in threads[:less]) for blocks in plain_rows(threads)}
                self.assertEqual(ROW_COUNTS[less - 1][many - 1], len([row for row in rows if threads in row]))

    def test_more_than_1200(self):
        for size in range(1, 6):
            for length in range(7):
                if (size, length) not in COUNTS:
                    with self.subTest(size=size, length=length):
                        assert_given(self, TooMany, "limit", 1200, all_patterns, size, length)
                        assert_given(self, TooMany, "limit", 1200, pattern_count, size, length)

    def test_wrong_sizes_and_lengths(self):
        for call in (all_patterns, pattern_count):
            for size in odd_values() + [0, 6, -1, LONGEST]:
                for length in (0, 6, 7, None):
                    with self.subTest(size=size, length=length):
                        assert_given(self, InvalidNumber, "given", size, call, size, length)
            for length in odd_values() + [-1, 7, LONGEST]:
                for size in (1, 5):
                    with self.subTest(size=size, length=length):
                        assert_given(self, InvalidNumber, "given", length, call, size, length)


class NothingSharedTest(unittest.TestCase):
    def test_arguments_stay(self):
        run = Run((0, 1), (APART, BACK, TOGETHER))
        for one in (0, 1):
            view = assert_untouched(self, view_of, run, one)
            for call in (carrier_of, pattern_of, is_view, is_pattern, run_with):
                assert_untouched(self, call, view)
            assert_untouched(self, renamed_view, view, {1: 4, 0: 9})
        assert_untouched(self, views_of, run)
        for call in (all_patterns, pattern_count):
            assert_untouched(self, call, 3, 2)
        for value in ([0, ()], (0, []), (0, ([[0, [0]]],)), {0: []}):
            self.assertIs(assert_untouched(self, is_view, value), False)
            self.assertIs(assert_untouched(self, is_pattern, value), False)

    def test_a_changed_dict_changes_no_view(self):
        names = {0: 5, 1: 2}
        view = renamed_view((1, (((1, (0, 1)),),)), names)
        names.clear()
        self.assertEqual(view, (2, (((2, (2, 5)),),)))

    def test_what_is_returned_are_tuples(self):
        run = lined_run((9, 4, 1), 2)
        views = list(views_of(run)) + [pattern_of(view_of(run, 4)), renamed_view(view_of(run, 4), {4: 0, 9: 1})]
        for view in views + list(all_patterns(2, 2)):
            parts = [view, view[1], carrier_of(view)] + list(view[1]) + [pair for row in view[1] for pair in row]
            for part in parts + [pair[1] for row in view[1] for pair in row]:
                self.assertIs(part.__class__, tuple)
        self.assertIs(views_of(run).__class__, tuple)
        self.assertIs(all_patterns(2, 2).__class__, tuple)

    def test_rounds_of_runs_stay(self):
        for given in all_rounds((0, 1, 2)):
            before = given.blocks
            views_of(Run((0, 1, 2), (given, given)))
            self.assertEqual(given.blocks, before)


if __name__ == "__main__":
    unittest.main()
