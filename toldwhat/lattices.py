"""Rows of whole numbers, made plain: what group remains once each of the rows counts as nothing."""


def plain_form(rows):
    """As many integers as there are rows, each dividing the next one, and a base.

    The rows are as long as there are rows, and none is a sum of others. Numbers side by side are a whole-number sum of
    the rows exactly if, multiplied by the base, each of them can be divided by its integer.
    """
    lines = [list(row) for row in rows]
    places = range(len(lines))
    base = [[int(row == column) for column in places] for row in places]
    for at in places:
        settle(lines, base, at)
    return [abs(lines[place][place]) for place in places], base


def settle(rows, base, at):
    """Make the number at a place of the row of that place divide all beyond, with 0 beside and below it."""
    beyond = range(at + 1, len(rows))
    while True:
        bring_least(rows, base, at)
        lower(rows, base, at)
        if any([rows[at][place] != 0 or rows[place][at] != 0 for place in beyond]):
            continue
        odd = [row for row in beyond if any([rows[row][place] % rows[at][at] != 0 for place in beyond])]
        if not odd:
            return
        # What the next round leaves of these numbers is less than the number at the place.
        add_row(rows, at, odd[0], 1)


def bring_least(rows, base, at):
    """Bring the least number but 0, of those from a place on, to that place."""
    places = range(at, len(rows))
    _, row, column = min([(abs(rows[i][j]), i, j) for i in places for j in places if rows[i][j] != 0])
    rows[at], rows[row] = rows[row], rows[at]
    # The base tells of columns alone: rows that change places have the same sums.
    for line in rows + base:
        line[at], line[column] = line[column], line[at]


def lower(rows, base, at):
    """Take the row and the column of a place from those beyond as often as leaves the least numbers."""
    for row in range(at + 1, len(rows)):
        add_row(rows, row, at, -(rows[row][at] // rows[at][at]))
    for column in range(at + 1, len(rows)):
        times = rows[at][column] // rows[at][at]
        for line in rows + base:
            line[column] -= times * line[at]


def add_row(rows, at, other, times):
    """Add another row so many times to a row."""
    rows[at] = [number + times * rows[other][place] for place, number in enumerate(rows[at])]
