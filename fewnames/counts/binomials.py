"""Binomial numbers, and the numbers of names that are barred by their common factors."""

from math import comb, gcd

from fewnames.errors import InvalidOperation
from fewnames.base.values import check_between, is_integer, is_old_name

MAX_SIZE = 60
MAX_LIST = 200


def binomial(top, low):
    """The binomial number C(top, low)."""
    check_between(top, 0, MAX_SIZE)
    check_between(low, 0, top)
    return comb(top, low)


def common_factor(size, numbers):
    """The greatest common factor of all C(size, k) of these numbers k."""
    check_size(size)
    if not is_row_of_marks(size, numbers) or not numbers:
        raise InvalidOperation("numbers are an ascending tuple of one or more integers from 0 to the size")
    return factor_of(size, numbers)


def prime_base(size):
    """The prime of which the size is a power, or None if there is none."""
    check_size(size)
    for prime in range(2, size + 1):
        if size % prime == 0:
            # The least divisor is a prime; a power of it has no other one.
            return prime if is_power(size, prime) else None
    return None


def allowed_marks(size, names, group_size):
    """The numbers of marked threads that unlike names let, ascending."""
    check_size(size)
    check_names(names)
    check_between(group_size, 0, names)
    return marks_of(size, names, group_size)


def is_barred(size, names):
    """Whether so many names are barred for so many threads."""
    check_size(size)
    check_names(names)
    return names < size or barring_group(size, names) is not None


def least_free(size):
    """The least number of names that is not barred."""
    check_size(size)
    names = size
    while barring_group(size, names) is not None:
        names += 1
    return names


def barred_paper(size, names):
    """A paper that the number of names is barred."""
    check_size(size)
    check_names(names)
    if names < size:
        return ("few",)
    group_size = barring_group(size, names)
    if group_size is None:
        raise InvalidOperation("this number of names is not barred")
    return ("group", group_size, factor_of(size, marks_of(size, names, group_size)))


def is_barred_paper(size, names, value):
    """Whether the value is a paper that the number of names is barred."""
    check_size(size)
    check_names(names)
    if not isinstance(value, tuple):
        return False
    if names < size:
        return value == ("few",)
    if len(value) != 3 or value[0] != "group" or not is_integer(value[1]) or not 1 <= value[1] < names:
        return False
    return is_factor(value[2], size, marks_of(size, names, value[1]))


def free_paper(size, names):
    """A paper that the number of names is not barred."""
    if is_barred(size, names):
        raise InvalidOperation("this number of names is barred")
    return tuple([free_row(size, marks_of(size, names, group_size)) for group_size in range(1, names)])


def is_free_paper(size, names, value):
    """Whether the value is a paper that the number of names is not barred."""
    check_size(size)
    check_names(names)
    if names < size or not isinstance(value, tuple) or len(value) != names - 1:
        return False
    return all([is_free_row(row, size, marks_of(size, names, at + 1)) for at, row in enumerate(value)])


def check_size(size):
    """Refuses a value that is no number of threads."""
    check_between(size, 1, MAX_SIZE)


def check_names(names):
    """Refuses a value that is no number of new names."""
    check_between(names, 1, MAX_LIST)


def is_row_of_marks(size, value):
    """Whether the value is an ascending tuple of numbers of marked threads, of so many threads."""
    if not isinstance(value, tuple) or not all([is_old_name(one) and one <= size for one in value]):
        return False
    return list(value) == sorted(set(value))


def factor_of(size, marks):
    """The greatest common factor of all C(size, k) of these numbers k, 0 if there are none."""
    factor = 0
    for mark in marks:
        factor = gcd(factor, comb(size, mark))
        if factor == 1:
            return 1
    return factor


def is_factor(value, size, marks):
    """Whether the value is an integer above 1 that divides all C(size, k) of these numbers k."""
    if not is_integer(value) or value < 2:
        return False
    return all([comb(size, mark) % value == 0 for mark in marks])


def is_power(number, base):
    """Whether the number is a power of the base."""
    rest = number
    while rest % base == 0:
        rest = rest // base
    return rest == 1


def marks_of(size, names, group_size):
    """The numbers of marked threads that unlike names let, where all numbers are known to be right."""
    return tuple(range(max(0, size - names + group_size), min(size, group_size) + 1))


def barring_group(size, names):
    """The size of a group that bars so many names, which are not fewer than the threads, or None."""
    # With a smaller group no thread need be marked, with a greater one all can be: C(size, 0) and C(size, size) are 1.
    for group_size in range(names - size + 1, size):
        if factor_of(size, marks_of(size, names, group_size)) > 1:
            return group_size
    return None


def free_row(size, marks):
    """Integers so that the sum of their products with all C(size, k) of these numbers k is 1."""
    numbers = [comb(size, mark) for mark in marks]
    factor = numbers[0]
    row = [1]
    for number in numbers[1:]:
        if number % factor == 0:
            row.append(0)
        else:
            factor, one, other = shared_factor(factor, number)
            row = lessened([part * one for part in row] + [other], numbers, factor)
    return tuple(row)


def lessened(row, numbers, total):
    """Small integers in place of those in the row, whose sum of products with these numbers still is the total."""
    # All but the first integer count only up to multiples of the first number, which the first integer makes up for.
    parts = [part % numbers[0] for part in row[1:]]
    rest = total - sum([part * number for part, number in zip(parts, numbers[1:])])
    return [rest // numbers[0]] + parts


def shared_factor(one, other):
    """The greatest common factor of two numbers, and the integers by which it is the sum of their multiples."""
    # The rest is always the sum of these multiples of both numbers, and so is what it is divided by.
    left, left_one, left_other = one, 1, 0
    rest, rest_one, rest_other = other, 0, 1
    while rest != 0:
        times = left // rest
        left, rest = rest, left - times * rest
        left_one, rest_one = rest_one, left_one - times * rest_one
        left_other, rest_other = rest_other, left_other - times * rest_other
    return left, left_one, left_other


def is_free_row(value, size, marks):
    """Whether the value has an integer for each of these numbers k, and their sum of products with C(size, k) is 1."""
    if not isinstance(value, tuple) or len(value) != len(marks) or not all([is_integer(one) for one in value]):
        return False
    return sum([one * comb(size, mark) for one, mark in zip(value, marks)]) == 1
