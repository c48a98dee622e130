"""Wishes: which numbers of marked threads are let, and whether signs let any program fulfil them."""

from math import comb

from fewnames.errors import InvalidOperation, InvalidWish
from fewnames.base.rounds import MAX_THREADS
from fewnames.base.values import check_between, is_integer, is_member
from fewnames.counts.binomials import is_row_of_marks, marks_of
from fewnames.counts.marks import check_marking, is_row_of_integers, is_triangle, marks_in_runs
from fewnames.programs.programs import MAX_NAME, program_by
from fewnames.tasks.systems import diagonal_form, reason_against, solution_of
from fewnames.views.views import last_seen_in


def is_wish(value):
    """Whether the value is a wish."""
    if not isinstance(value, tuple) or not 1 <= len(value) <= MAX_THREADS:
        return False
    return all([is_row_of_marks(at + 1, row) and len(row) > 0 for at, row in enumerate(value)])


def reached_wish(program, group):
    """The wish with just the numbers of marked threads that come up."""
    check_marking(program, group)
    return tuple([tuple(sorted(set(marks_in_runs(program, group, many)))) for many in range(1, program.size + 1)])


def is_fulfilled(program, group, wish):
    """Whether in each run the number of marked threads is let."""
    check_marking(program, group)
    check_wish(wish)
    if len(wish) != program.size:
        raise InvalidWish("the wish is for as many threads as the size of the program")
    reached = reached_wish(program, group)
    return all([mark in row for marks, row in zip(reached, wish) for mark in marks])


def names_wish(size, names, group_size):
    """The wish that unlike names out of so many put on a group of so many of them."""
    check_between(size, 1, MAX_THREADS)
    check_between(names, size, MAX_NAME)
    check_between(group_size, 0, names)
    return tuple([marks_of(many, names, group_size) for many in range(1, size + 1)])


def is_open(wish):
    """Whether the wish is open."""
    check_wish(wish)
    return found_row(wish) is not None


def fitting_triangle(wish):
    """A triangle by which the wish is open."""
    check_wish(wish)
    row = found_row(wish)
    if row is None:
        raise InvalidOperation("the wish is shut")
    rows = [row]
    while len(rows[0]) > 1:
        rows = [tuple([one + other for one, other in zip(rows[0], rows[0][1:])])] + rows
    return tuple(rows)


def is_fitting(wish, value):
    """Whether the value is a triangle by which the wish is open."""
    check_wish(wish)
    if not is_triangle(value) or len(value) != len(wish) + 1 or value[1] not in ((1, 0), (0, 1)):
        return False
    return all([
        number == 0 or mark in row for row, numbers in zip(wish, value[1:]) for mark, number in enumerate(numbers)])


def shut_paper(wish):
    """A paper that the wish is shut."""
    check_wish(wish)
    places = places_of(wish)
    form, columns = diagonal_form(rows_of(wish, places))
    paper = {}
    for mark in wish[0]:
        reason = reason_against(form, columns, totals_of(places, mark))
        if reason is None:
            raise InvalidOperation("the wish is open")
        modulus, weights = reason
        paper[mark] = (modulus, weights_of(len(wish), dict(zip(places, weights)), modulus))
    return paper


def is_shut_paper(wish, value):
    """Whether the value is a paper that the wish is shut."""
    check_wish(wish)
    if not isinstance(value, dict) or len(value) != len(wish[0]):
        return False
    return all([is_member(key, wish[0]) and is_reason(wish, key, value[key]) for key in value])


def pair_program(wish):
    """A program with names 1 and 2 and the least number of rounds that fulfils a wish for two threads with (2,)."""
    check_wish(wish)
    if len(wish) != 2:
        raise InvalidWish("the wish is for two threads")
    alone, together = wish
    for mark in alone:
        # Without a round both threads take the same new name.
        if 2 * mark in together:
            return program_by(2, 0, lambda pattern: mark + 1)
    for mark in alone:
        # One round is enough: who sees the other one takes the other name, so both do or just one of them.
        if 1 in together and 2 - 2 * mark in together:
            return program_by(2, 1, lambda pattern: mark + 1 if len(last_seen_in(pattern)) == 1 else 2 - mark)
    raise InvalidOperation("the wish is shut")


def check_wish(wish):
    """Refuses a value that is no wish."""
    if not is_wish(wish):
        raise InvalidWish("a wish has for 1, 2, .. threads the numbers of marked threads that are let")


def places_of(wish):
    """Where a number of the triangle is told ahead: for one thread, and 0 where so many marked threads are not let."""
    # Numbers in the last row that are not let are left out of the equations instead.
    return [(1, 0), (1, 1)] + [
        (many, mark) for many in range(2, len(wish)) for mark in range(many + 1) if mark not in wish[many - 1]]


def rows_of(wish, places):
    """For each of these places in the triangle how often it has each number of the last row that is let."""
    size = len(wish)
    # What stands in a triangle is the sum of the two below it, so that of the last row it has binomial numbers.
    return [
        [comb(size - many, last - mark) if last >= mark else 0 for last in wish[-1]] for many, mark in places]


def totals_of(places, mark):
    """What stands at these places in a triangle in which one thread has this mark."""
    return [1 if place == (1, mark) else 0 for place in places]


def found_row(wish):
    """The last row of a triangle by which the wish is open, or None if it is shut."""
    places = places_of(wish)
    form, columns = diagonal_form(rows_of(wish, places))
    for mark in wish[0]:
        numbers = solution_of(form, columns, totals_of(places, mark))
        if numbers is not None:
            told = dict(zip(wish[-1], numbers))
            return tuple([told.get(last, 0) for last in range(len(wish) + 1)])
    return None


def weights_of(size, told, modulus):
    """The weights of all places in the triangle but those of the last row, by those of the places told ahead."""
    rows = [(told[(1, 0)], told[(1, 1)])]
    for many in range(2, size):
        rows.append(tuple([
            (above_at(rows[-1], mark) + told.get((many, mark), 0)) % modulus for mark in range(many + 1)]))
    return tuple(rows)


def above_at(row, mark):
    """The sum of the two weights above this place, where those that are not there count as 0."""
    return sum(row[max(mark - 1, 0):mark + 1])


def is_reason(wish, mark, value):
    """Whether the value shows that there is no triangle in which one thread has this mark."""
    if not isinstance(value, tuple) or len(value) != 2:
        return False
    modulus, weights = value
    if not is_integer(modulus) or modulus < 2 or not is_weights(weights, len(wish)):
        return False
    if len(wish) == 1 or weights[0][mark] % modulus == 0:
        return False
    # In the last row there are no weights.
    below = weights[1:] + ((0,) * (len(wish) + 1),)
    return all([
        (above_at(above, let) - row[let]) % modulus == 0
        for above, row, marks in zip(weights, below, wish[1:]) for let in marks])


def is_weights(value, size):
    """Whether the value has a row of integers for 1, 2, .. up to one less than so many threads."""
    if not isinstance(value, tuple) or len(value) != size - 1:
        return False
    return all([is_row_of_integers(row) and len(row) == at + 2 for at, row in enumerate(value)])
