"""Linear equations over whole numbers, solved without fractions.

An equation is a row: a factor for each unknown, then the number they are to make.
"""


# The column is cleared in all rows but the one that has the column's own number.
# Each division is exact, as all numbers met are determinants of parts of the rows (Bareiss).
def clear_column(rows, column, divisor):
    chosen = rows[column]
    pivot = chosen[column]
    cleared = []
    for index, row in enumerate(rows):
        if index == column:
            cleared.append(row)
        else:
            factor = row[column]
            cleared.append([(pivot * old - factor * taken) // divisor for old, taken in zip(row, chosen)])
    return cleared


# Answered are a number above for each unknown, then the one number below that they share.
# No rows change places, so the first k equations in their first k unknowns must have just one solution, for each k.
def solve(rows):
    size = len(rows)
    cleared = rows
    divisor = 1
    for column in range(size):
        cleared = clear_column(cleared, column, divisor)
        divisor = cleared[column][column]
    return [row[size] for row in cleared] + [divisor]
