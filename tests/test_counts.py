"""Signed counts: points [7.1] and [7.2], and what their functions return and refuse."""

import itertools
import unittest

from fewnames.counts.counts import (
    count_of, family_of, is_family, opened_at, rearranged, signed_counts)
from fewnames.errors import InvalidNumber, InvalidOperation, InvalidProgram
from fewnames.programs.programs import Program
from tests.samples import (
    LONGEST, RANKS, TOO_LONG, assert_given, assert_untouched, mixed, odd_values, plain_outcomes, rank_program,
    some_programs)

PROGRAMS = some_programs()
COUNTS = {(1, 3): 1, (2, 1): 1, (2, 3): -1}
ZEROS = {(2, 3): -1, (5, 5): 0, (1, 3): 1, (2, 1): 1, (2, 4): 0}
NO_COUNTS = [
    {}, {(): 1}, {(): 0}, {(): 1, (1,): 1}, {(1,): 1, (): 1}, {(1,): 1, (1, 2): 1}, {(1, 2): 1, (1,): 1}, {(0,): 1},
    {(100,): 1}, {(-1,): 1}, {(True,): 1}, {(1, True): 1}, {(1, 2, 3, 4, 5, 6): 1}, {1: 1}, {"1": 1}, {None: 1}, {("1",): 1},
    {((1,),): 1}, {(1,): True}, {(1,): False}, {(1,): None}, {(1,): "1"}, {(1,): (1,)}, {(1,): [1]}, {(1,): TOO_LONG},
    {(1,): -TOO_LONG}, {(TOO_LONG,): 1}, {(1, 2): 1, (2, 1): None}, {(1, 2): 1, (2, 0): 1}, [((1,), 1)], [(1, 2)], ((1,), 1),
    {(1,): 1, 1: 1}, {(1,): 1, None: 1}, {(1,): 1, True: 1}, RANKS, {(1,): {}},
]


def tidy(found):
    """The items of a dict with ascending keys, without numbers that are 0."""
    return [(key, found[key]) for key in sorted(found) if found[key]]


def plain_counts(program, many):
    sums = {}
    for outcome, sign in plain_outcomes(program, many) if many else [((), 1)]:
        sums[outcome] = sums.get(outcome, 0) + sign
    return dict(tidy(sums))


def plain_opened(counts, place):
    sums = {}
    for outcome, number in counts.items():
        key = outcome[:place] + outcome[place + 1:]
        sums[key] = sums.get(key, 0) + number
    return dict(tidy(sums))


class SignedCountsTest(unittest.TestCase):
    def test_against_all_runs(self):
        for program in PROGRAMS:
            for many in range(program.size + 1):
                found = signed_counts(program, many)
                self.assertEqual(list(found.items()), list(plain_counts(program, many).items()))

    def test_no_thread(self):
        for program in PROGRAMS:
            self.assertEqual(signed_counts(program, 0), {(): 1})

    def test_sums_are_1(self):
        for program in PROGRAMS:
            for many in range(program.size + 1):
                self.assertEqual(sum(signed_counts(program, many).values()), 1)

    def test_family(self):
        for program in PROGRAMS:
            family = family_of(program)
            self.assertIs(family.__class__, tuple)
            self.assertEqual(family, tuple(signed_counts(program, many) for many in range(program.size + 1)))
            for counts in family:
                self.assertEqual(list(counts.items()), tidy(counts))
            self.assertIs(is_family(family), True)

    def test_opened_at_each_place_are_the_counts_ahead(self):
        for program in PROGRAMS:
            family = family_of(program)
            for many in range(1, program.size + 1):
                for place in range(many):
                    self.assertEqual(opened_at(family[many], place), family[many - 1])

    def test_lengthened_fewer_and_mirrored(self):
        for program in PROGRAMS:
            family = family_of(program)
            if program.size * (program.length + 1) < 8:
                self.assertEqual(family_of(program.lengthened()), family)
            for size in range(1, program.size + 1):
                self.assertEqual(family_of(program.for_fewer(size)), family[:size + 1])
            back = tuple(dict(tidy({key[::-1]: counts[key] for key in counts})) for counts in family)
            self.assertEqual(family_of(program.mirrored()), back)

    def test_wrong_programs(self):
        for value in [one for one in odd_values() if not isinstance(one, Program)] + [0, RANKS.names]:
            for many in (0, 9, None):
                self.assertRaises(InvalidProgram, signed_counts, value, many)
            self.assertRaises(InvalidProgram, family_of, value)

    def test_wrong_numbers(self):
        for many in odd_values() + [-1, 3, LONGEST]:
            assert_given(self, InvalidNumber, "given", many, signed_counts, RANKS, many)
        assert_given(self, InvalidNumber, "given", 5, signed_counts, rank_program(4), 5)


class OpenedTest(unittest.TestCase):
    def test_opened(self):
        self.assertEqual(opened_at(COUNTS, 0), {(1,): 1})
        self.assertEqual(opened_at({(1, 2, 3): 4, (5, 2, 3): -3, (5, 2, 4): 7, (1, 2, 4): -7}, 0), {(2, 3): 1})
        self.assertEqual(opened_at({(1, 2, 3): 4, (1, 9, 3): 5}, 1), {(1, 3): 9})
        self.assertEqual(opened_at({(3,): 2, (4,): -2}, 0), {})
        self.assertEqual(opened_at({(3,): LONGEST, (4,): LONGEST}, 0), {(): 2 * LONGEST})

    def test_zeros(self):
        for place in (0, 1):
            self.assertEqual(opened_at(ZEROS, place), opened_at(COUNTS, place))
        self.assertEqual(opened_at({(1, 2): 0}, 1), {})

    def test_ascending_keys(self):
        counts = {(9, 1): 1, (3, 8): 2, (3, 1): 3, (7, 7): 4}
        self.assertEqual(list(opened_at(counts, 0).items()), [((1,), 4), ((7,), 4), ((8,), 2)])
        self.assertEqual(list(opened_at(counts, 1).items()), [((3,), 5), ((7,), 4), ((9,), 1)])

    def test_no_counts(self):
        for value in NO_COUNTS + odd_values():
            with self.subTest(value=value):
                for place in (0, 7, None):
                    self.assertRaises(InvalidOperation, opened_at, value, place)
                for known in ({}, {0: 1}, {9: 1}, None):
                    self.assertRaises(InvalidOperation, count_of, value, known)
                for places in ((), (0,), None):
                    self.assertRaises(InvalidOperation, rearranged, value, places)

    def test_no_place(self):
        for place in odd_values() + [-1, 2, LONGEST]:
            assert_given(self, InvalidNumber, "given", place, opened_at, COUNTS, place)


class IsFamilyTest(unittest.TestCase):
    def test_families(self):
        self.assertIs(is_family(({(): 1},)), True)
        self.assertIs(is_family(({(): 1}, {(7,): 1})), True)
        self.assertIs(is_family(({(): 1}, {(7,): 3, (9,): -2})), True)
        self.assertIs(is_family(({(): 1}, {(7,): 3, (9,): -2}, {(9, 9): -2, (7, 7): 3})), True)
        for names in ((1,), (99,)):
            self.assertIs(is_family(tuple({names * many: 1} for many in range(6))), True)

    def test_six_dicts(self):
        self.assertIs(is_family(tuple({(1,) * many: 1} for many in range(7))), False)
        self.assertIs(is_family(()), False)

    def test_not_each_place_leads_to_the_counts_ahead(self):
        self.assertIs(is_family(({(): 1}, {(1,): 1}, {(1, 2): 1})), False)
        self.assertIs(is_family(({(): 1}, {(2,): 1}, {(1, 2): 1})), False)
        self.assertIs(is_family(({(): 1}, {(1,): 1}, {(1, 2): 1, (2, 1): 1})), False)
        self.assertIs(is_family(({(): 1}, {(1,): 1}, {(1, 2): 1, (2, 1): 1, (2, 2): -1})), True)

    def test_changed_families(self):
        for program in [one for one in PROGRAMS if one.size < 5][::3] + [rank_program(5)]:
            family = family_of(program)
            for many, counts in enumerate(family):
                changed = [{}, [*counts], None, list(counts.items())]
                for key, number in list(counts.items())[:5]:
                    changed += [{**counts, key: number + 1}, {**counts, key: -number}, {**counts, key: 0}]
                    changed += [{**counts, key: str(number)}, {one: counts[one] for one in counts if one != key}]
                    changed += [{**counts, key: True}] if number == 1 else []
                    changed += [{**counts, key + (1,): 1}, {**counts, key[1:]: 1}] if many else [{**counts, (1,): 1}]
                    if 1 in key:
                        other = {one: counts[one] for one in counts if one != key}
                        changed.append({**other, tuple(True if one == 1 else one for one in key): number})
                changed += [{**counts, (98,) * many: 0}, {**counts, (98,) * many: 1}, {**counts, (0,) * many: 0}]
                for other in changed:
                    if other != counts or "True" in repr(other):
                        self.assertIs(is_family(family[:many] + (other,) + family[many + 1:]), False, other)
            for other in (list(family), family[1:], family + family[-1:], family[::-1], family[:1] * 2):
                self.assertIs(is_family(other), False)
            for many in range(1, program.size + 2):
                self.assertIs(is_family(family[:many]), True)

    def test_values_of_any_kind(self):
        for value in odd_values() + [0, 1, {(): 1}, [{(): 1}], ({(): True},), ({(): 2},), ({(): 0},), ({},), ({(1,): 1},)]:
            with self.subTest(value=value):
                self.assertIs(is_family(value), False)
                self.assertIs(is_family((value,)), value == {(): 1})
                self.assertIs(is_family(({(): 1}, value)), False)

    def test_the_order_of_a_dict_has_no_effect(self):
        family = family_of(mixed(3, 1, 4))
        back = tuple(dict(list(counts.items())[::-1]) for counts in family)
        self.assertIs(is_family(back), True)


class CountOfTest(unittest.TestCase):
    def test_count_of(self):
        self.assertEqual([count_of(COUNTS, known) for known in ({}, {0: 2}, {0: 1}, {1: 3}, {1: 1}, {0: 2, 1: 3}, {1: 3, 0: 9})],
                         [1, 0, 1, 0, 1, -1, 0])
        self.assertEqual(count_of({(1,): LONGEST, (2,): LONGEST}, {}), 2 * LONGEST)

    def test_against_outcomes(self):
        for program in PROGRAMS[::4] + [mixed(3, 2, 4)]:
            counts = signed_counts(program, program.size)
            for places in itertools.chain.from_iterable(
                    itertools.combinations(range(program.size), many) for many in range(program.size + 1)):
                for names in itertools.product(program.told[:2], repeat=len(places)):
                    known = dict(zip(places, names))
                    right = sum(number for key, number in counts.items() if all(key[at] == known[at] for at in known))
                    self.assertEqual(count_of(counts, known), right)

    def test_zeros(self):
        for known in ({}, {0: 2}, {1: 3}, {0: 5, 1: 5}, {1: 4}):
            self.assertEqual(count_of(ZEROS, known), count_of(COUNTS, known))

    def test_nothing_known(self):
        wrong = [{2: 1}, {-1: 1}, {0: 0}, {0: 100}, {0: -1}, {False: 1}, {True: 1}, {0: True}, {"0": 1}, {0: "1"}, {None: 1},
                 {0: None}, {(0,): 1}, {0: (1,)}, {0: [1]}, {0: 1, 2: 1}, {TOO_LONG: 1}, {0: TOO_LONG}, [(0, 1)], ((0, 1),)]
        for known in wrong + [one for one in odd_values() if one not in ({}, {0: 1})]:
            with self.subTest(known=known):
                self.assertRaises(InvalidOperation, count_of, COUNTS, known)


class RearrangedTest(unittest.TestCase):
    def test_rearranged(self):
        self.assertEqual(rearranged({(1, 3): 1, (2, 1): 1}, (1, 0)), {(1, 2): 1, (3, 1): 1})
        self.assertEqual(rearranged({(7, 8, 9): 5}, (1, 2, 0)), {(8, 9, 7): 5})
        self.assertEqual(rearranged({(7, 8, 9): 5}, (2, 0, 1)), {(9, 7, 8): 5})
        self.assertEqual(rearranged(COUNTS, (0, 1)), COUNTS)

    def test_all_orders(self):
        for program in (rank_program(3), mixed(3, 2, 4), mixed(4, 1, 3)):
            counts = signed_counts(program, program.size)
            for places in itertools.permutations(range(program.size)):
                right = {tuple(key[at] for at in places): number for key, number in counts.items()}
                self.assertEqual(list(rearranged(counts, places).items()), tidy(right))

    def test_zeros(self):
        self.assertEqual(rearranged(ZEROS, (1, 0)), rearranged(COUNTS, (1, 0)))
        self.assertEqual(rearranged({(1,): 0}, (0,)), {})

    def test_no_places(self):
        wrong = [(0,), (0, 0), (1, 1), (0, 1, 2), (1, 2), (-1, 0), [0, 1], (0, True), (False, 1), (False, True), ("0", "1"),
                 (0, None), (0, (1,)), ((0, 1),), {0: 1}, "01", 1, (0, TOO_LONG), (0, 1, 1)]
        for places in wrong + [one for one in odd_values() if one != (0, 1)]:
            with self.subTest(places=places):
                self.assertRaises(InvalidOperation, rearranged, COUNTS, places)


class NothingSharedTest(unittest.TestCase):
    def test_arguments_stay(self):
        program = mixed(3, 1, 4)
        assert_untouched(self, signed_counts, program, 3)
        assert_untouched(self, family_of, program)
        assert_untouched(self, opened_at, ZEROS, 0)
        assert_untouched(self, count_of, ZEROS, {1: 3, 0: 2})
        assert_untouched(self, rearranged, ZEROS, (1, 0))
        assert_untouched(self, is_family, family_of(program))
        assert_untouched(self, is_family, [{(): 1}])

    def test_changed_dicts_change_nothing(self):
        program = mixed(2, 1, 3)
        before = [signed_counts(program, 2), family_of(program)]
        signed_counts(program, 2).clear()
        for counts in family_of(program):
            counts.clear()
        self.assertEqual([signed_counts(program, 2), family_of(program)], before)
        counts = dict(COUNTS)
        found = rearranged(counts, (0, 1))
        counts.clear()
        self.assertEqual(found, COUNTS)


if __name__ == "__main__":
    unittest.main()
