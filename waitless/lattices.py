"""Lattices: what whole numbers of some vectors add up to, and what shows that they don't add up to another one.

A vector is a dict from columns, which are numbers, to numbers other than 0.
"""

from math import gcd


def plus(vector, other, times):
    """The sum of vector and so many times the other one."""
    found = {column: vector[column] for column in vector}
    for column in other:
        total = found.get(column, 0) + times * other[column]
        if total != 0:
            found[column] = total
        elif column in found:
            found.pop(column)
    return found


def steps_down(vectors):
    """The list of triples (column, vector, counts), whose vectors add up to just what vectors do.

    No vector has anything at the columns of those ahead of it; counts tell which of vectors, by their place in the
    list, make it.
    """
    rows = [(vector, {number: 1}) for number, vector in enumerate(vectors) if len(vector) > 0]
    found = []
    while len(rows) > 0:
        first, column = best_entry(rows)
        pivot, rows = cleared(rows, first, column)
        found.append((column, pivot[0], pivot[1]))
    return found


def best_entry(rows):
    """The pair of a row's number and a column with as small a number there as can be, in as short a row."""
    entries = []
    for number, row in enumerate(rows):
        column = min(row[0], key=lambda one: (abs(row[0][one]), one))
        entries.append((abs(row[0][column]), len(row[0]), number, column))
    return min(entries)[2:]


def cleared(rows, first, column):
    """The pair of a row that alone has something at column, and the list of the others, but those that are nothing."""
    pivot = rows[first]
    others = rows[:first] + rows[first + 1:]
    while True:
        at = pivot[0][column]
        others = [less(row, pivot, row[0].get(column, 0) // at) for row in others]
        still = [number for number, row in enumerate(others) if column in row[0]]
        if len(still) == 0:
            return (pivot, [row for row in others if len(row[0]) > 0])
        # What remains is smaller than the pivot's number, as when a common divisor is looked for.
        least = min(still, key=lambda number: abs(others[number][0][column]))
        pivot, others = others[least], others[:least] + others[least + 1:] + [pivot]


def less(row, other, times):
    """The row less so many times the other one."""
    if times == 0:
        return row
    return (plus(row[0], other[0], -times), plus(row[1], other[1], -times))


def added(steps, vector, counts):
    """What steps_down tells, and one vector more, made by counts."""
    found = []
    row = (vector, counts)
    for column, pivot, made in steps:
        step = (pivot, made)
        while column in row[0]:
            row = less(row, step, row[0][column] // step[0][column])
            # What remains is smaller, and takes the place of the step.
            if column in row[0]:
                row, step = step, row
        found.append((column, step[0], step[1]))
    if len(row[0]) > 0:
        column = best_entry([row])[1]
        found.append((column, row[0], row[1]))
    return found


def put_down(steps, target):
    """The triple (rest, counts, number): what is left of target once as much as can be is taken off.

    counts tell what was taken off; number tells the step whose number doesn't go into what is left, or how many
    steps there are.
    """
    counts = {}
    for number, (column, vector, made) in enumerate(steps):
        times, rest = divmod(target.get(column, 0), vector[column])
        if rest != 0:
            return (target, counts, number)
        target = plus(target, vector, -times)
        counts = plus(counts, made, times)
    return (target, counts, len(steps))


def weights_against(steps, rest, number):
    """The pair (modulus, weights): by them each vector of steps weighs 0 modulo modulus, but rest doesn't.

    rest, not nothing, and number are what put_down tells; weights are a dict from columns, 0 for the others.
    """
    if number < len(steps):
        column, vector, _ = steps[number]
        modulus = abs(vector[column])
    else:
        modulus, column = min([(not_dividing(rest[one]), one) for one in rest])
    weights = {column: 1}
    # Steps behind that column have nothing but columns that weigh nothing.
    for one, vector, _ in steps[:number][::-1]:
        total = sum([vector[other] * weights.get(other, 0) for other in vector]) % modulus
        times = abs(vector[one])
        if total % times != 0:
            modulus = modulus * times
            weights = {other: weights[other] * times for other in weights}
            total = total * times
        weights[one] = -total // vector[one] % modulus
    common = modulus
    for one in weights:
        common = gcd(common, weights[one])
    return (modulus // common, {one: weights[one] // common for one in weights})


def not_dividing(number):
    """The least number from 2 on that doesn't divide number, which is not 0."""
    divisor = 2
    while number % divisor == 0:
        divisor += 1
    return divisor
