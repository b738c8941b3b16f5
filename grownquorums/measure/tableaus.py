"""Linear programs in integers: how many least sets can be picked, in parts, if each place takes only so much.

A tableau has a bottom, a basis and rows. The rows are those of the places and then that of the sum; their
entries are tops over the bottom, first those of the least sets and then those of the room that is left at
the places. What the places take stands in no row: it can be told from the entries of the rooms, so that a
tableau, once it is best, can be tried for other bounds of the places.
"""


def first_tableau(width, family):
    """The tableau by which nothing is picked."""
    rows = [
        [1 if place in least else 0 for least in family] + [1 if place == room else 0 for room in range(width)]
        for place in range(width)
    ]
    rows.append([-1] * len(family) + [0] * width)
    return (1, [len(family) + place for place in range(width)], rows)


def amount(row, bounds):
    """What a row tells by these bounds of the places, as a top over the bottom."""
    return sum([entry * bound for entry, bound in zip(row[-len(bounds):], bounds)])


def amounts(tableau, bounds):
    """What the rows of the places tell: so much of what stands in the basis."""
    return [amount(row, bounds) for row in tableau[2][:-1]]


def _leaving(tableau, bounds, column):
    """The index of the row that bounds what can be had of a column; of several, that of the least of the basis."""
    _, basis, rows = tableau
    bounding = [
        (many, rows[at][column], basis[at], at) for at, many in enumerate(amounts(tableau, bounds))
        if rows[at][column] > 0
    ]
    found = bounding[0]
    for row in bounding[1:]:
        turn = row[0] * found[1] - found[0] * row[1]
        if turn < 0 or turn == 0 and row[2] < found[2]:
            found = row
    return found[3]


def _pivoted(tableau, at, column):
    """The tableau with the column in the basis, in the place of what stood there in this row."""
    bottom, basis, rows = tableau
    head = rows[at]
    pivot = head[column]
    further = []
    for index, row in enumerate(rows):
        if index == at:
            further.append(row)
        else:
            # The division leaves no rest: the entries are minors of the first rows.
            further.append([(entry * pivot - row[column] * other) // bottom for entry, other in zip(row, head)])
    return (pivot, basis[:at] + [column] + basis[at + 1:], further)


def best_tableau(width, family, bounds):
    """A tableau by which as much as can be is picked."""
    tableau = first_tableau(width, family)
    while True:
        # The first column that adds to the sum is taken, as others may lead in a circle.
        columns = [column for column, entry in enumerate(tableau[2][-1]) if entry < 0]
        if not columns:
            return tableau
        tableau = _pivoted(tableau, _leaving(tableau, bounds, columns[0]), columns[0])
