"""Binomials and barred numbers: points [0.17] and [8.1], and what their functions return and refuse."""

import functools
import math
import unittest

from fewnames.counts.binomials import (
    MAX_LIST, MAX_SIZE, allowed_marks, barred_paper, binomial, common_factor, free_paper, is_barred, is_barred_paper,
    is_free_paper, least_free, prime_base)
from fewnames.errors import InvalidNumber, InvalidOperation
from tests.samples import LONGEST, TOO_LONG, assert_given, assert_untouched, odd_values

NO_SIZES = odd_values() + [0, 61, -1, LONGEST]
NO_NAMES = odd_values() + [0, 201, -1, LONGEST]


def pascal():
    """The rows of Pascal's triangle, each number being the sum of the two above it."""
    rows = [[1]]
    for _ in range(60):
        rows.append([a + b for a, b in zip([0] + rows[-1], rows[-1] + [0])])
    return rows


ROWS = pascal()


def plain_base(size):
    """The prime of which the size is a power."""
    primes = [one for one in range(2, size + 1) if size % one == 0 and all(one % two for two in range(2, one))]
    return primes[0] if len(primes) == 1 else None


def plain_marks(size, names, group_size):
    """By the words of the document: no two names are alike, so all names but the unmarked threads' are in the group."""
    return tuple(k for k in range(size + 1) if k <= group_size and size - k <= names - group_size)


def plain_factor(size, marks):
    return math.gcd(*[ROWS[size][k] for k in marks])


@functools.lru_cache(None)
def factor_between(size, low, high):
    return plain_factor(size, range(low, high + 1))


def plain_barred(size, names):
    return names < size or any(
        factor_between(size, max(0, size - names + many), min(size, many)) > 1 for many in range(1, names))


# For each size the numbers of names that are barred.
BARRED = {size: [names for names in range(1, 201) if plain_barred(size, names)] for size in range(1, 61)}


class BinomialTest(unittest.TestCase):
    def test_against_pascal(self):
        self.assertEqual([MAX_SIZE, MAX_LIST], [60, 200])
        for top in range(61):
            self.assertEqual([binomial(top, low) for low in range(top + 1)], ROWS[top])

    def test_wrong_numbers(self):
        for top in odd_values() + [-1, 61, LONGEST]:
            for low in (0, -1, 99, None):
                assert_given(self, InvalidNumber, "given", top, binomial, top, low)
        for low in odd_values() + [-1, 8, LONGEST]:
            assert_given(self, InvalidNumber, "given", low, binomial, 7, low)
        assert_given(self, InvalidNumber, "given", 1, binomial, 0, 1)


class CommonFactorTest(unittest.TestCase):
    def test_all_between(self):
        # By point [8.1] it is the prime of which the size is a power, else 1.
        for size in range(2, 61):
            self.assertEqual(common_factor(size, tuple(range(1, size))), plain_base(size) or 1)

    def test_windows(self):
        for size in range(1, 61):
            for low in range(0, size + 1, 3):
                for high in range(low, size + 1, 4):
                    marks = tuple(range(low, high + 1))
                    self.assertEqual(common_factor(size, marks), plain_factor(size, marks))

    def test_single_numbers_and_ends(self):
        for size in (1, 2, 6, 30, 60):
            for mark in range(size + 1):
                self.assertEqual(common_factor(size, (mark,)), ROWS[size][mark])
            self.assertEqual([common_factor(size, (0,)), common_factor(size, (0, size))], [1, 1])
        self.assertEqual([common_factor(6, (1, 3)), common_factor(6, (2, 4)), common_factor(6, (1, 2))], [2, 15, 3])

    def test_no_numbers(self):
        wrong = [(), (7,), (-1,), (0, 7), (1, 1), (2, 1), [1, 2], (True,), (0, True), (1, "2"), (1, None), ((1,),), {1: 2}, 1,
                 (TOO_LONG,), (1, -TOO_LONG)]
        for numbers in wrong + [one for one in odd_values() if one not in ((0,), (0, 1))]:
            with self.subTest(numbers=numbers):
                self.assertRaises(InvalidOperation, common_factor, 6, numbers)


class PrimeBaseTest(unittest.TestCase):
    def test_all_sizes(self):
        self.assertEqual([prime_base(size) for size in range(1, 61)], [plain_base(size) for size in range(1, 61)])
        self.assertEqual([prime_base(size) for size in (1, 2, 4, 6, 12, 27, 32, 49, 59, 60)],
                         [None, 2, 2, None, None, 3, 2, 7, 59, None])


class AllowedMarksTest(unittest.TestCase):
    def test_all(self):
        for size in list(range(1, 61, 7)) + [60]:
            for names in list(range(1, 70, 3)) + [120, 199, 200]:
                for group_size in range(0, names + 1, 5):
                    marks = allowed_marks(size, names, group_size)
                    self.assertEqual(marks, tuple(range(max(0, size - names + group_size), min(size, group_size) + 1)))
                    if names >= size:
                        self.assertEqual(marks, plain_marks(size, names, group_size))

    def test_none_is_let(self):
        for size in (2, 5, 60):
            for names in range(1, size):
                for group_size in range(names + 1):
                    self.assertEqual(allowed_marks(size, names, group_size), ())

    def test_wrong_group_sizes(self):
        for group_size in odd_values() + [-1, 9, LONGEST]:
            assert_given(self, InvalidNumber, "given", group_size, allowed_marks, 6, 8, group_size)
        self.assertEqual([allowed_marks(6, 8, 0), allowed_marks(6, 8, 8)], [(0,), (6,)])


class BarredTest(unittest.TestCase):
    def test_all_sizes_and_names(self):
        for size in range(1, 61):
            self.assertEqual([names for names in range(1, 201) if is_barred(size, names)], BARRED[size])

    def test_each_smaller_number_is_barred_as_well(self):
        for size in range(1, 61):
            barred = [is_barred(size, names) for names in range(1, 201)]
            self.assertEqual(barred, sorted(barred, reverse=True))
            self.assertEqual(least_free(size), barred.index(False) + 1)

    def test_powers_of_primes(self):
        for size in range(2, 61):
            self.assertIs(is_barred(size, 2 * size - 1), False)
            if plain_base(size):
                self.assertIs(is_barred(size, 2 * size - 2), True)
                self.assertEqual(least_free(size), 2 * size - 1)
        self.assertEqual([least_free(size) for size in (1, 6, 10, 60)], [1, 9, 17, 117])

    def test_true_and_false_are_returned(self):
        for size, names in ((1, 1), (2, 1), (2, 2), (2, 3), (6, 200)):
            self.assertIn(is_barred(size, names), (True, False))
            self.assertIs(is_barred(size, names).__class__, bool)


class BarredPaperTest(unittest.TestCase):
    def test_papers(self):
        for size in range(1, 61):
            for names in BARRED[size]:
                paper = barred_paper(size, names)
                self.assertIs(is_barred_paper(size, names, paper), True)
                if names < size:
                    self.assertEqual(paper, ("few",))
                else:
                    word, group_size, factor = paper
                    self.assertEqual([word, paper.__class__], ["group", tuple])
                    self.assertTrue(1 <= group_size < names)
                    self.assertTrue(factor > 1 and plain_factor(size, plain_marks(size, names, group_size)) % factor == 0)

    def test_no_paper(self):
        for size in range(1, 61):
            for names in set(range(1, 201, 7)) | {least_free(size), 200}:
                if names not in BARRED[size]:
                    self.assertRaises(InvalidOperation, barred_paper, size, names)

    def test_all_papers(self):
        for size in range(1, 13):
            for names in range(1, 26):
                for group_size in range(-1, names + 2):
                    for factor in (-2, 0, 1, 2, 3, 4, 5, 6, 7, 10, 15, 11):
                        right = (names >= size and 1 <= group_size < names and factor > 1
                                 and all(ROWS[size][k] % factor == 0 for k in plain_marks(size, names, group_size)))
                        self.assertIs(is_barred_paper(size, names, ("group", group_size, factor)), right)
                self.assertIs(is_barred_paper(size, names, ("few",)), names < size)

    def test_greater_factors_are_let(self):
        self.assertIs(is_barred_paper(6, 6, ("group", 1, 6)), True)
        self.assertIs(is_barred_paper(6, 6, ("group", 2, 15)), True)
        self.assertIs(is_barred_paper(6, 6, ("group", 1, 3)), True)
        self.assertIs(is_barred_paper(6, 6, ("group", 1, 4)), False)

    def test_values_near_a_paper(self):
        self.assertIs(is_barred_paper(6, 8, ("group", 4, 5)), True)
        near = [["group", 4, 5], ("group", 4), ("group", 4, 5, 5), ("few",), ("few", 4, 5), ("Group", 4, 5), (4, 5), ("group", 5, 4),
                ("group", "4", 5), ("group", 4, "5"), ("group", 4, None), ("group", 4, True), ("group", True, 2), (None, 4, 5),
                ("group", (4,), 5), ("group", 4, (5,)), ("group", 4, -5), ("group", 4, 10 ** 60), ("group", 4, 0), ("group", 0, 5),
                ("group", 8, 5), ("group", TOO_LONG, 5), "group", {"group": 4}, (("group",), 4, 5), ("group", [4], 5)]
        for value in near + odd_values():
            with self.subTest(value=value):
                self.assertIs(is_barred_paper(6, 8, value), False)
        self.assertIs(is_barred_paper(2, 2, ("group", True, 2)), False)
        self.assertIs(is_barred_paper(2, 2, ("group", 1, 2)), True)

    def test_values_near_few(self):
        for value in [["few"], "few", (), ("few", 1), ("Few",), (("few",),), ("group", 1, 2), (None,), ("f", "e", "w")] + odd_values():
            with self.subTest(value=value):
                self.assertIs(is_barred_paper(6, 5, value), False)
        self.assertIs(is_barred_paper(6, 5, ("few",)), True)


class FreePaperTest(unittest.TestCase):
    def test_papers(self):
        for size in list(range(1, 61, 4)) + [59, 60]:
            for names in {least_free(size), 2 * size - 1, 2 * size, 200}:
                paper = free_paper(size, names)
                self.assertIs(is_free_paper(size, names, paper), True)
                self.assertEqual(len(paper), names - 1)
                for at, row in enumerate(paper):
                    marks = plain_marks(size, names, at + 1)
                    self.assertEqual(len(row), len(marks))
                    self.assertEqual(sum(one * ROWS[size][k] for one, k in zip(row, marks)), 1)
                    self.assertTrue(all(one.__class__ is int and abs(one) < 10 ** 40 for one in row))
                    self.assertIs(row.__class__, tuple)
                self.assertIs(paper.__class__, tuple)

    def test_no_paper(self):
        for size in range(2, 61):
            for names in {1, size - 1, size, BARRED[size][-1]}:
                if names in BARRED[size]:
                    self.assertRaises(InvalidOperation, free_paper, size, names)
                    self.assertIs(is_free_paper(size, names, ()), False)
                    self.assertIs(is_free_paper(size, names, free_paper(size, 200)[:names - 1]), False)

    def test_one_thread(self):
        self.assertEqual([free_paper(1, 1), is_free_paper(1, 1, ()), is_free_paper(1, 1, ((),))], [(), True, False])

    def test_too_few_names(self):
        self.assertIs(is_free_paper(2, 1, ()), False)
        self.assertIs(is_free_paper(5, 3, ((), ())), False)

    def test_other_integers(self):
        self.assertIs(is_free_paper(2, 3, ((1, 0), (0, 1))), True)
        self.assertIs(is_free_paper(2, 3, ((-1, 1), (1, -1))), True)
        self.assertIs(is_free_paper(2, 3, ((1 - 2 * 10 ** 58, 10 ** 58), (0, 1))), True)
        self.assertIs(is_free_paper(2, 3, ((1 - 2 * TOO_LONG, TOO_LONG), (0, 1))), False)

    def test_values_near_a_paper(self):
        near = [[(1, 0), (0, 1)], ([1, 0], (0, 1)), ((1, 0), [0, 1]), ((1, 0),), ((1, 0), (0, 1), (1,)), ((1,), (0, 1)),
                ((1, 0, 0), (0, 1)), ((0, 1), (0, 1)), ((1, 0), (1, 0)), ((1, 1), (0, 1)), ((True, 0), (0, 1)), ((1, False), (0, 1)),
                ((1, 0), (0, True)), ((1, None), (0, 1)), ((1, "0"), (0, 1)), ((1, (0,)), (0, 1)), (1, 0), ((1, 0), 1),
                ((1, 0), None), ((), ()), {(1, 0): (0, 1)}, (((1, 0), (0, 1)),)]
        for value in near + odd_values():
            with self.subTest(value=value):
                self.assertIs(is_free_paper(2, 3, value), False)

    def test_changed_papers(self):
        for size, names in ((6, 9), (12, 21), (30, 61)):
            paper = free_paper(size, names)
            for at, row in enumerate(paper):
                for place in range(len(row)):
                    other = row[:place] + (row[place] + 1,) + row[place + 1:]
                    self.assertIs(is_free_paper(size, names, paper[:at] + (other,) + paper[at + 1:]), False)


class ErrorsTest(unittest.TestCase):
    def test_wrong_sizes(self):
        calls = [(common_factor, ((),)), (prime_base, ()), (allowed_marks, (0, -1)), (is_barred, (0,)), (least_free, ()),
                 (barred_paper, (0,)), (is_barred_paper, (0, None)), (free_paper, (0,)), (is_free_paper, (0, None))]
        for size in NO_SIZES:
            for call, others in calls:
                with self.subTest(call=call, size=size):
                    assert_given(self, InvalidNumber, "given", size, call, size, *others)

    def test_wrong_names(self):
        calls = [(allowed_marks, (-1,)), (is_barred, ()), (barred_paper, ()), (is_barred_paper, (None,)), (free_paper, ()),
                 (is_free_paper, (None,))]
        for names in NO_NAMES:
            for call, others in calls:
                for size in (1, 6, 60):
                    with self.subTest(call=call, names=names):
                        assert_given(self, InvalidNumber, "given", names, call, size, names, *others)


class NothingSharedTest(unittest.TestCase):
    def test_equal_calls(self):
        for call, arguments in ((binomial, (60, 30)), (common_factor, (6, (2, 3, 4))), (prime_base, (49,)), (allowed_marks, (6, 8, 4)),
                                (is_barred, (6, 8)), (least_free, (60,)), (barred_paper, (6, 8)), (free_paper, (60, 130)),
                                (is_barred_paper, (6, 8, ["group", 4, 5])), (is_free_paper, (2, 3, [[1, 0], [0, 1]]))):
            assert_untouched(self, call, *arguments)


if __name__ == "__main__":
    unittest.main()
