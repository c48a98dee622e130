"""Wishes: points [13.1] to [13.3], and what their functions return and refuse."""

import itertools
import random
import unittest

from fewnames.base.runs import all_runs
from fewnames.counts.binomials import allowed_marks, is_barred
from fewnames.counts.marks import triangle_from, triangle_of
from fewnames.errors import InvalidGroup, InvalidNumber, InvalidOperation, InvalidProgram, InvalidWish
from fewnames.make.makers import rank_program, shrinking_program
from fewnames.programs.programs import Program, program_by
from fewnames.tasks.wishes import (
    fitting_triangle, is_fitting, is_fulfilled, is_open, is_shut_paper, is_wish, names_wish, pair_program, reached_wish,
    shut_paper)
from fewnames.views.views import all_patterns
from tests.samples import (
    LONGEST, RANKS, TOO_LONG, assert_given, assert_untouched, mixed, odd_values, plain_outcomes, some_programs)

OPEN = ((0,), (1, 2))
SHUT = ((0, 1), (1,))
NO_PROGRAMS = [one for one in odd_values() if not isinstance(one, Program)] + [0, RANKS.names]
NO_GROUPS = [one for one in odd_values() if one != ()] + [(0,), (100,), (2, 1), (1, 1), (True,), [1], 1, (1, "2")]
NO_WISHES = [one for one in odd_values() if one not in (((0,), (1,)), ((1,), (0,)))] + [
    0, ((),), ((0,), ()), ((2,),), ((-1,),), ((1, 0),), ((0, 0),), ((0,), (3,)), ((0,), 1), ((0,), [1]), [(0,), (1,)],
    ((True,),), ((False, 1),), ((0,), (0, True)), ((0,), ("1",)), ((0,), (None,)), ((0, 1), (0, 1, 2), (4,)),
    ((0,),) * 6, ((0, 1), (0, 1, 2), (0, 1, 2, 3), (0,), (0,), (0,)), (((0,),),), ((0, LONGEST),), "0"]


def let_by(many):
    """All tuples of numbers that can be let for so many threads."""
    return [row for count in range(1, many + 2) for row in itertools.combinations(range(many + 1), count)]


def all_wishes(size):
    return list(itertools.product(*[let_by(many) for many in range(1, size + 1)]))


def some_wishes():
    """All wishes of few threads, and some of more."""
    pick = random.Random(13)
    found = [wish for size in (1, 2, 3) for wish in all_wishes(size)]
    for size in (4, 5):
        choices = [let_by(many) for many in range(1, size + 1)]
        found += [tuple(pick.choice(rows) for rows in choices) for _ in range(200)]
        # Wishes that let nearly all are open more often.
        found += [tuple(pick.choice(rows[-many - 3:]) for many, rows in enumerate(choices)) for _ in range(200)]
    return found


WISHES = some_wishes()


def plain_fitting(wish, rows):
    """Whether rows of integers are a triangle that fits, by the words of the document."""
    if len(rows) != len(wish) + 1 or rows[0] != (1,) or sorted(rows[1]) != [0, 1]:
        return False
    for many, row in enumerate(rows):
        if len(row) != many + 1:
            return False
        if many and any(number and mark not in wish[many - 1] for mark, number in enumerate(row)):
            return False
        if many and any(rows[many - 1][mark] != row[mark] + row[mark + 1] for mark in range(many)):
            return False
    return True


def plain_reason(wish, mark, modulus, weights):
    """Whether a modulus and weights show it for one of the numbers, by the words of the document."""
    def weight(many, place):
        if 1 <= many <= len(weights) and 0 <= place <= many:
            return weights[many - 1][place]
        return 0

    if modulus < 2 or len(weights) != len(wish) - 1 or any(len(row) != at + 2 for at, row in enumerate(weights)):
        return False
    for many in range(2, len(wish) + 1):
        for let in wish[many - 1]:
            if (weight(many - 1, let) + weight(many - 1, let - 1) - weight(many, let)) % modulus:
                return False
    return weight(1, mark) % modulus != 0


def plain_open(wish, reach):
    """Whether a triangle fits of which the last row has small integers."""
    for row in itertools.product(*[range(-reach, reach + 1) if mark in wish[-1] else (0,) for mark in range(len(wish) + 1)]):
        rows = [row]
        while len(rows[0]) > 1:
            rows.insert(0, tuple(one + other for one, other in zip(rows[0], rows[0][1:])))
        if plain_fitting(wish, tuple(rows)):
            return True
    return False


def digits_in(value):
    """The digits of the longest integer in a value."""
    if isinstance(value, dict):
        return max(digits_in(one) for one in value.values())
    if isinstance(value, tuple):
        return max([digits_in(one) for one in value], default=0)
    return len(str(abs(value)))


class WishTest(unittest.TestCase):
    def test_wishes_and_values_near_them(self):
        for wish in WISHES:
            self.assertIs(is_wish(wish), True)
        for size in (4, 5):
            self.assertIs(is_wish(tuple(tuple(range(many + 1)) for many in range(1, size + 1))), True)
        for value in NO_WISHES:
            with self.subTest(value=value):
                self.assertIs(is_wish(value), False)

    def test_no_wish(self):
        for wish in NO_WISHES:
            for call in (is_open, fitting_triangle, shut_paper, pair_program):
                self.assertRaises(InvalidWish, call, wish)
            for call in (is_fitting, is_shut_paper):
                for value in (None, ((1,), (1, 0)), {}):
                    self.assertRaises(InvalidWish, call, wish, value)
            self.assertRaises(InvalidWish, is_fulfilled, RANKS, (), wish)


class ReachedTest(unittest.TestCase):
    def test_against_all_runs(self):
        for program in some_programs():
            if program.size * program.length < 6:
                for group in ((), program.told[:1], program.told[1:], program.told[::2], program.told, (98, 99)):
                    reached = []
                    for many in range(1, program.size + 1):
                        marks = {sum(name in group for name in outcome) for outcome, _ in plain_outcomes(program, many)}
                        reached.append(tuple(sorted(marks)))
                    self.assertEqual(reached_wish(program, group), tuple(reached))
                    self.assertIs(is_wish(tuple(reached)), True)
                    self.assertIs(is_open(tuple(reached)), True)
                    self.assertIs(is_fitting(tuple(reached), triangle_of(program, group)), True)

    def test_fulfilled_ones(self):
        pick = random.Random(4)
        programs = [one for one in some_programs() if one.size in (2, 3) and one.length < 3]
        for program in programs:
            for wish in pick.sample(all_wishes(program.size), 12):
                for group in (program.told[:1], program.told[1:]):
                    reached = reached_wish(program, group)
                    fulfilled = all(set(marks) <= set(row) for marks, row in zip(reached, wish))
                    self.assertIs(is_fulfilled(program, group, wish), fulfilled)
                    wider = tuple(tuple(sorted({*marks, *row})) for marks, row in zip(reached, wish))
                    self.assertIs(is_fulfilled(program, group, wider), True)
                    if fulfilled:
                        self.assertIs(is_open(wish), True)

    def test_each_number_that_comes_up_is_needed(self):
        program = rank_program(3)
        reached = reached_wish(program, (1, 4, 6))
        for at, row in enumerate(reached):
            for mark in row:
                less = tuple(one for one in row if one != mark)
                if less:
                    self.assertIs(is_fulfilled(program, (1, 4, 6), reached[:at] + (less,) + reached[at + 1:]), False)

    def test_good_programs_fulfil_the_wishes_of_unlike_names(self):
        for program in [rank_program(size) for size in (1, 2, 3, 4)] + [shrinking_program(2), shrinking_program(3)]:
            for count in range(program.greatest + 1):
                for group in itertools.islice(itertools.combinations(range(1, program.greatest + 1), count), 4):
                    self.assertIs(is_fulfilled(program, group, names_wish(program.size, program.greatest, count)), True)

    def test_errors(self):
        for program in NO_PROGRAMS:
            for group in ((), (0,)):
                self.assertRaises(InvalidProgram, reached_wish, program, group)
                self.assertRaises(InvalidProgram, is_fulfilled, program, group, None)
        for group in NO_GROUPS:
            self.assertRaises(InvalidGroup, reached_wish, RANKS, group)
            for wish in (OPEN, None):
                self.assertRaises(InvalidGroup, is_fulfilled, RANKS, group, wish)
        for wish in all_wishes(1) + all_wishes(3):
            self.assertRaises(InvalidWish, is_fulfilled, RANKS, (2,), wish)


class NamesWishTest(unittest.TestCase):
    def test_allowed_marks(self):
        for size in range(1, 6):
            for names in (size, size + 1, 2 * size, 98, 99):
                for group_size in range(0, names + 1, 1 if names < 20 else 7):
                    wish = names_wish(size, names, group_size)
                    self.assertEqual(wish, tuple(allowed_marks(many, names, group_size) for many in range(1, size + 1)))
                    self.assertIs(is_wish(wish), True)

    def test_barred_numbers(self):
        for size in range(2, 6):
            for names in range(size, 2 * size + 1):
                shut = [count for count in range(1, names) if not is_open(names_wish(size, names, count))]
                if is_barred(size, names):
                    self.assertTrue(shut)

    def test_a_common_factor_shuts_the_wish(self):
        for size, names, group_size in ((2, 2, 1), (3, 4, 2), (4, 6, 3), (5, 8, 4)):
            self.assertIs(is_open(names_wish(size, names, group_size)), False)
        for size in (1, 2, 3):
            for group_size in range(2 * size):
                self.assertIs(is_open(names_wish(size, 2 * size - 1, group_size)), True)

    def test_wrong_numbers(self):
        for size in [0, 6, -1, LONGEST] + odd_values():
            for names in (3, None):
                assert_given(self, InvalidNumber, "given", size, names_wish, size, names, None)
        for size, few in ((1, 0), (3, 2), (5, 4)):
            for names in [few, 100, -1, LONGEST] + odd_values():
                assert_given(self, InvalidNumber, "given", names, names_wish, size, names, None)
        for group_size in [-1, 5, LONGEST] + odd_values():
            assert_given(self, InvalidNumber, "given", group_size, names_wish, 3, 4, group_size)


class OpenTest(unittest.TestCase):
    def test_just_one_of_two(self):
        for wish in WISHES:
            if is_open(wish):
                triangle = assert_untouched(self, fitting_triangle, wish)
                self.assertTrue(plain_fitting(wish, triangle), wish)
                self.assertIs(is_fitting(wish, triangle), True)
                self.assertRaises(InvalidOperation, shut_paper, wish)
                self.assertLessEqual(digits_in(triangle), 40)
            else:
                paper = assert_untouched(self, shut_paper, wish)
                self.assertEqual(tuple(paper), wish[0])
                self.assertTrue(all(plain_reason(wish, mark, *paper[mark]) for mark in paper), wish)
                self.assertIs(is_shut_paper(wish, paper), True)
                self.assertRaises(InvalidOperation, fitting_triangle, wish)
                self.assertLessEqual(digits_in(paper), 40)

    def test_against_all_small_triangles(self):
        for wish in all_wishes(1) + all_wishes(2) + all_wishes(3):
            self.assertIs(is_open(wish), plain_open(wish, 3))

    def test_how_many_are_open(self):
        for size, many in ((1, 3), (2, 16), (3, 146)):
            self.assertEqual(sum(is_open(wish) for wish in all_wishes(size)), many)

    def test_one_thread(self):
        for wish, triangle in ((((0,),), ((1,), (1, 0))), (((1,),), ((1,), (0, 1)))):
            self.assertEqual(fitting_triangle(wish), triangle)
        self.assertIn(fitting_triangle(((0, 1),)), (((1,), (1, 0)), ((1,), (0, 1))))
        for wish in all_wishes(1):
            self.assertIs(is_open(wish), True)
            for paper in ({}, {0: (2, ())}, {0: (2, ()), 1: (2, ())}, {1: (3, ())}, {0: (2, ((1, 1),))}):
                self.assertIs(is_shut_paper(wish, paper), False)

    def test_a_wider_wish_stays_open(self):
        pick = random.Random(6)
        for wish in [one for one in WISHES if is_open(one)]:
            wider = tuple(
                tuple(sorted({*row, *pick.sample(range(at + 2), pick.randrange(at + 3))})) for at, row in enumerate(wish))
            self.assertIs(is_open(wider), True)
            self.assertIs(is_fitting(wider, fitting_triangle(wish)), True)
            self.assertIs(is_open(wish[:-1]), True) if len(wish) > 1 else None

    def test_no_program_fulfils_a_shut_wish(self):
        shut = [wish for size in (2, 3) for wish in all_wishes(size) if not is_open(wish)]
        programs = [mixed(size, length, 4) for size, length in ((2, 0), (2, 1), (2, 2), (3, 0), (3, 1), (3, 2))]
        for program in programs + [rank_program(2), rank_program(3), shrinking_program(3)]:
            for group in ((1,), (2, 3), (1, 4), (5,)):
                for wish in [one for one in shut if len(one) == program.size]:
                    self.assertIs(is_fulfilled(program, group, wish), False)


class FittingTest(unittest.TestCase):
    def test_others_that_fit(self):
        # For three threads: whatever signs sum to 1 over the last row.
        wide = ((0, 1), (0, 1, 2), (0, 1, 2, 3))
        for sums in itertools.product((1,), (0, 1), range(-2, 3), range(-2, 3)):
            self.assertIs(is_fitting(wide, triangle_from(sums)), True)
        for sums in itertools.product((1,), (-1, 2), range(-1, 2), range(-1, 2)):
            self.assertIs(is_fitting(wide, triangle_from(sums)), False)
        great = triangle_from((1, 1, LONGEST // 99, -LONGEST // 99, 0))
        self.assertIs(is_fitting(tuple(tuple(range(many + 1)) for many in range(1, 5)), great), True)

    def test_values_near_a_triangle(self):
        for wish in [one for one in WISHES if is_open(one)][::7]:
            right = fitting_triangle(wish)
            self.assertIs(is_fitting(wish, list(right)), False)
            self.assertIs(is_fitting(wish, right[1:]), False)
            self.assertIs(is_fitting(wish, right[:-1]), False)
            for at, row in enumerate(right):
                for place in range(len(row)):
                    for number in (row[place] + 1, row[place] - 1, -row[place], True, False, None, str(row[place]), TOO_LONG, (0,)):
                        near = right[:at] + (row[:place] + (number,) + row[place + 1:],) + right[at + 1:]
                        fits = number.__class__ is int and number != TOO_LONG and plain_fitting(wish, near)
                        self.assertIs(is_fitting(wish, near), fits)
                self.assertIs(is_fitting(wish, right[:at] + (list(row),) + right[at + 1:]), False)
                self.assertIs(is_fitting(wish, right[:at] + (row[:-1],) + right[at + 1:]), False)
                self.assertIs(is_fitting(wish, right[:at] + (row + (0,),) + right[at + 1:]), False)

    def test_no_triangle(self):
        for value in odd_values() + [0, ((1,),), ((1,), (1, 0)), ((1,), (1, 0), (0, 1, -1), (0, 0, 1, -2))]:
            self.assertIs(is_fitting(OPEN, value), False)
            self.assertIs(is_fitting(SHUT, value), False)
        self.assertIs(is_fitting(OPEN, ((1,), (1, 0), (0, 1, -1))), True)
        self.assertIs(is_fitting(OPEN, ((True,), (1, 0), (0, 1, -1))), False)
        self.assertIs(is_fitting(SHUT, ((1,), (1, 0), (1, 0, 0))), False)


class PaperTest(unittest.TestCase):
    def test_others_that_are_right(self):
        right = (2, ((1, 1),))
        for mine, others in itertools.product(
                [right, (2, ((-1, 3),)), (4, ((2, 2),)), (7, ((3, 4),)), (LONGEST, ((1, LONGEST - 1),)), (2, ((1, LONGEST),))], repeat=2):
            self.assertIs(is_shut_paper(SHUT, {0: mine, 1: others}), True)
            self.assertIs(is_shut_paper(SHUT, {1: mine, 0: others}), True)
        self.assertIs(is_shut_paper(((0,), (1,)), {0: right}), True)
        for wrong in ((2, ((1, 0),)), (2, ((0, 0),)), (2, ((2, 2),)), (3, ((1, 1),)), (1, ((1, 1),)), (0, ((1, 1),)), (-2, ((1, 1),))):
            for paper in ({0: wrong, 1: right}, {0: right, 1: wrong}, {0: wrong, 1: wrong}):
                self.assertIs(is_shut_paper(SHUT, paper), False)

    def test_multiples_and_sums_of_papers(self):
        for wish in [one for one in WISHES if not is_open(one)][::11]:
            right = shut_paper(wish)
            for factor in (-1, 2, 5):
                other = {
                    mark: (modulus * abs(factor), tuple(tuple(factor * one for one in row) for row in weights))
                    for mark, (modulus, weights) in right.items()}
                self.assertIs(is_shut_paper(wish, other), True)
            shifted = {
                mark: (modulus, tuple(tuple(one + modulus * (at - 3) for at, one in enumerate(row)) for row in weights))
                for mark, (modulus, weights) in right.items()}
            self.assertIs(is_shut_paper(wish, shifted), True)
            self.assertIs(is_shut_paper(wish, {mark: right[mark] for mark in reversed(right)}), True)

    def test_values_near_a_paper(self):
        for wish in [one for one in WISHES if not is_open(one)][::23]:
            right = shut_paper(wish)
            for mark, (modulus, weights) in right.items():
                nears = [(modulus + 1, weights), (modulus * 2, weights), (1, weights), (modulus, weights[1:])]
                for at, row in enumerate(weights):
                    for place in range(len(row)):
                        for number in (row[place] + 1, row[place] - 1, row[place] + modulus, 0):
                            nears.append((modulus, weights[:at] + (row[:place] + (number,) + row[place + 1:],) + weights[at + 1:]))
                    nears.append((modulus, weights[:at] + (row[:-1],) + weights[at + 1:]))
                    nears.append((modulus, weights[:at] + (row + (0,),) + weights[at + 1:]))
                for near in nears:
                    self.assertIs(is_shut_paper(wish, {**right, mark: near}), plain_reason(wish, mark, *near))

    def test_values_of_other_forms(self):
        right = (2, ((1, 1),))
        wrong = [
            None, (), (2,), (2, (1, 1)), (2, [(1, 1)]), (2, ([1, 1],)), [2, ((1, 1),)], (2, ((1, 1),), 0), (True, ((1, 1),)),
            ("2", ((1, 1),)), (2, ((True, 1),)), (2, ((1, True),)), (2, ((1, None),)), (2, ((1, "1"),)), (2, ((1, TOO_LONG + 1),)),
            (2 * TOO_LONG, ((TOO_LONG, TOO_LONG),)), (TOO_LONG, ((1, -1),)), (2, ((1, 1), (1, 1, 1))), (2, ()), (2, ((1, 1, 1),)), (2, ((1,),))]
        for value in wrong + odd_values():
            self.assertIs(is_shut_paper(SHUT, {0: value, 1: right}), False)
            self.assertIs(is_shut_paper(SHUT, {0: right, 1: value}), False)
        for paper in odd_values() + [
                {0: right}, {1: right}, {0: right, 1: right, 2: right}, {0: right, "1": right}, {False: right, 1: right},
                {0: right, True: right}, {0: right, 2: right}, [(0, right), (1, right)], (right, right), {0: right, (1,): right}]:
            self.assertIs(is_shut_paper(SHUT, paper), False)
        self.assertIs(is_shut_paper(SHUT, {0: right, 1: right}), True)

    def test_an_open_wish_has_none(self):
        pick = random.Random(9)
        for wish in [one for one in WISHES if is_open(one) and 1 < len(one) < 4][::3]:
            for _ in range(40):
                modulus = pick.randrange(2, 7)
                paper = {mark: (modulus, tuple(
                    tuple(pick.randrange(modulus) for _ in range(many + 1)) for many in range(1, len(wish)))) for mark in wish[0]}
                self.assertIs(is_shut_paper(wish, paper), False)


class PairTest(unittest.TestCase):
    def test_all_wishes_for_two_threads(self):
        programs = {}
        for length in (0, 1):
            patterns = all_patterns(2, length)
            programs[length] = [
                Program(2, length, dict(zip(patterns, names))) for names in itertools.product((1, 2), repeat=len(patterns))]
        for wish in all_wishes(2):
            if not is_open(wish):
                self.assertRaises(InvalidOperation, pair_program, wish)
                continue
            made = assert_untouched(self, pair_program, wish)
            self.assertEqual(made.size, 2)
            self.assertTrue(set(made.told) <= {1, 2})
            self.assertIs(is_fulfilled(made, (2,), wish), True)
            least = min(length for length in programs if any(is_fulfilled(one, (2,), wish) for one in programs[length]))
            self.assertEqual(made.length, least)

    def test_by_hand(self):
        self.assertEqual(pair_program(((0,), (0,))), program_by(2, 0, lambda one: 1))
        self.assertEqual(pair_program(((1,), (1, 2))), program_by(2, 0, lambda one: 2))
        self.assertEqual(pair_program(((1,), (0, 1))).names, {
            (0, (((0, (0,)),),)): 2, (0, (((0, (0, 1)),),)): 1, (1, (((1, (0, 1)),),)): 1})
        marks = [sum(name == 2 for name in pair_program(OPEN).names_in(run).values()) for run in all_runs((0, 1), 1)]
        self.assertEqual(sorted(set(marks)), [1, 2])

    def test_wishes_for_other_numbers_of_threads(self):
        for wish in all_wishes(1) + all_wishes(3)[::5] + all_wishes(4)[::501]:
            self.assertRaises(InvalidWish, pair_program, wish)


if __name__ == "__main__":
    unittest.main()
