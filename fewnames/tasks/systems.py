"""Systems of integer equations: a solution by integers, or a modulus and weights that show that there is none."""


def diagonal_form(rows):
    """The rows made 0 off their diagonal, by which sums of the rows, and of which columns.

    Returned are rows, each of them followed by the multiples of the given rows of which it is the sum, and for each
    column the multiples of the given columns of which it is the sum. All multiples are by integers, both ways.
    """
    width = len(rows[0])
    form = [row + unit_row(len(rows), at) for at, row in enumerate(rows)]
    columns = [unit_row(width, at) for at in range(width)]
    for at in range(min(len(rows), width)):
        clear_cross(form, columns, at)
    return form, columns


def solution_of(form, columns, totals):
    """Integers of which the rows have these totals, by their diagonal form, or None if there are none."""
    found = [0] * len(columns)
    for at, row in enumerate(form):
        divisor = divisor_at(row, at, len(columns))
        total = total_of(row[len(columns):], totals)
        if not is_multiple(total, divisor):
            return None
        if divisor != 0:
            found = plus_times(found, columns[at], total // divisor)
    return found


def reason_against(form, columns, totals):
    """A modulus that divides a weighted sum of the rows, not that of the totals, and the weights; None if none does."""
    for at, row in enumerate(form):
        divisor = divisor_at(row, at, len(columns))
        weights = row[len(columns):]
        total = total_of(weights, totals)
        if not is_multiple(total, divisor):
            modulus = abs(divisor) if divisor != 0 else least_stranger(total)
            return modulus, [one % modulus for one in weights]
    return None


def clear_cross(form, columns, at):
    """Makes all 0 that is behind this place in its row and below it in its column."""
    spot = least_spot(form, len(columns), at)
    # What is left beside the least number is less than it, so this comes to an end.
    while spot is not None:
        bring_here(form, columns, at, spot)
        pivot = form[at][at]
        for low in range(at + 1, len(form)):
            form[low] = plus_times(form[low], form[at], -(form[low][at] // pivot))
        for right in range(at + 1, len(columns)):
            add_column(form, columns, right, at, -(form[at][right] // pivot))
        below = [row[at] for row in form[at + 1:]]
        behind = form[at][at + 1:len(columns)]
        spot = least_spot(form, len(columns), at) if any(below) or any(behind) else None


def least_spot(form, width, at):
    """Where the least number that is not 0 stands, from this place on to the right and down, or None."""
    spots = [(abs(form[low][right]), low, right) for low in range(at, len(form)) for right in range(at, width)]
    found = [spot for spot in spots if spot[0] != 0]
    return min(found)[1:] if found else None


def bring_here(form, columns, at, spot):
    """Exchanges rows and columns so that what stands at the spot comes to this place."""
    low, right = spot
    form[at], form[low] = form[low], form[at]
    columns[at], columns[right] = columns[right], columns[at]
    for row in form:
        row[at], row[right] = row[right], row[at]


def add_column(form, columns, to, at, times):
    """Adds a column so many times to another one."""
    columns[to] = plus_times(columns[to], columns[at], times)
    for row in form:
        row[to] = row[to] + times * row[at]


def plus_times(row, other, times):
    """The row with the other one added so many times."""
    return [one + times * part for one, part in zip(row, other)]


def unit_row(width, at):
    """The row with 1 at this place and 0 elsewhere."""
    return [1 if place == at else 0 for place in range(width)]


def total_of(weights, numbers):
    """The sum of the numbers, each with its weight."""
    return sum([weight * number for weight, number in zip(weights, numbers)])


def divisor_at(row, at, width):
    """What stands on the diagonal in this row, 0 below the last column."""
    return row[at] if at < width else 0


def is_multiple(total, divisor):
    """Whether the total is a multiple of the divisor, which can be 0."""
    return total == 0 if divisor == 0 else total % divisor == 0


def least_stranger(total):
    """The least number from 2 on that does not divide this one, which is not 0."""
    modulus = 2
    while total % modulus == 0:
        modulus += 1
    return modulus
