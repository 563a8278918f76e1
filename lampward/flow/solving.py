"""Systems of linear equations."""

from lampward.num.fractions import minus, over, times


def solve(rows):
    """Return the one solution of the system, or None if there is not exactly one."""
    found = solve_all(rows)
    if found is None:
        return None
    return [values[0] for values in found]


def solve_all(rows):
    """Solve systems that differ in their right sides only, which follow one another in each row.

    Return, for each unknown, its values in all the systems, or None if they do not have exactly one solution each.
    """
    left = [list(row) for row in rows]
    many = len(left)
    for column in range(many):
        at = _row_with(left, column)
        # As many equations as unknowns: without this unknown in what is left
        # of the equations, there is no solution, or there are several.
        if at is None:
            return None
        left[column], left[at] = left[at], left[column]
        left[column] = _divided(left[column], left[column][column])
        for k in range(many):
            if k != column:
                left[k] = _without(left[k], left[column], left[k][column])
    return [row[many:] for row in left]


def _row_with(rows, column):
    """Return the index of a row not used yet whose factor there is not 0, or None."""
    for at in range(column, len(rows)):
        if rows[at][column] != (0, 1):
            return at
    return None


def _divided(row, divisor):
    return [over(number, divisor) for number in row]


def _without(row, other, factor):
    """Return the row minus the factor times the other row."""
    if factor == (0, 1):
        return row
    return [minus(number, times(factor, taken)) for number, taken in zip(row, other)]
