"""Rows of fractions, and the whole numbers by which the columns of all of them sum up to 0."""

from hingedraw.fractions import common_divisor


def in_whole_numbers(row):
    shared = 1
    for cell in row:
        shared = shared // common_divisor(shared, cell[1]) * cell[1]
    return [cell[0] * (shared // cell[1]) for cell in row]


def without_shared(numbers):
    shared = 0
    for number in numbers:
        shared = common_divisor(shared, number)
    return [number // shared for number in numbers]


def first_with(rows, start, column):
    for at in range(start, len(rows)):
        if rows[at][column] != 0:
            return at
    return None


def cleared(row, lead, column, divisor):
    head = lead[column]
    factor = row[column]
    return [(head * cell - factor * above) // divisor for cell, above in zip(row, lead)]


def reduced(rows, many):
    # Told are rows with a column of their own each, where the others have 0, these columns, and what all have there.
    rows = [in_whole_numbers(row) for row in rows]
    columns = []
    divisor = 1
    for column in range(many):
        place = len(columns)
        at = first_with(rows, place, column)
        if at is not None:
            lead = rows.pop(at)
            # What the step ahead had there divides each cell (Bareiss), so whole numbers stay and grow but slowly.
            rows = [cleared(row, lead, column, divisor) for row in rows]
            rows.insert(place, lead)
            columns.append(column)
            divisor = lead[column]
    return (rows[:len(columns)], columns, divisor)


def rank_of(rows, many):
    return len(reduced(rows, many)[1])


def solutions(rows, many):
    told = reduced(rows, many)
    found = []
    for column in range(many):
        if column not in told[1]:
            numbers = [0] * many
            numbers[column] = told[2]
            for row, own in zip(told[0], told[1]):
                numbers[own] = -row[column]
            found.append(without_shared(numbers))
    return found
