"""Changed books, papers and sets: most do not hold, some still do."""


def without_one(rows):
    return [rows[:at] + rows[at + 1:] for at in range(len(rows))]


def doubled(rows):
    return [rows[:at] + rows[at:at + 1] + rows[at:] for at in range(len(rows))]


def swapped(rows):
    return [rows[:at] + (rows[at + 1], rows[at]) + rows[at + 2:] for at in range(len(rows) - 1)]


def replaced(rows, at, row):
    return rows[:at] + (row,) + rows[at + 1:]


def some(rng, rows, many):
    return rng.sample(rows, min(many, len(rows)))


def cut(rng, rows, many):
    """Rows left out, told twice, told in another order; so many of each."""
    found = [rows[:-1], rows[::-1], ()]
    for change in (without_one, doubled, swapped):
        found.extend(some(rng, change(rows), many))
    return found
