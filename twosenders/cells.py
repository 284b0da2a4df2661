"""Cells, rows and screens, which are there once for both senders.

A cell is a tuple: its sign, which part of the sign it is, and its colour.
"""

WHOLE = 0
LEFT = 1
RIGHT = 2
BLANK = (32, 0, 0)


class Row:
    def __init__(self, cells, goes_on):
        self.cells = cells
        self.goes_on = goes_on


class Screen:
    def __init__(self, width, height):
        self.width = width
        self.rows = blank_rows(width, height)


def is_narrow(byte):
    return 32 <= byte <= 126


def is_wide(byte):
    return 192 <= byte <= 223


def is_sign(byte):
    return is_narrow(byte) or is_wide(byte)


def cells_of_sign(byte, colour):
    if is_wide(byte):
        return [(byte, LEFT, colour), (byte, RIGHT, colour)]
    return [(byte, WHOLE, colour)]


def blank_cells(many):
    return [BLANK] * many


def blank_rows(width, many):
    return [Row(blank_cells(width), False) for place in range(many)]


def copied_screen(screen):
    other = Screen(screen.width, 0)
    other.rows = [Row(list(row.cells), row.goes_on) for row in screen.rows]
    return other


def begins_pair(cells, column):
    cell = cells[column]
    if cell[1] != LEFT or column + 1 == len(cells):
        return False
    return cells[column + 1] == (cell[0], RIGHT, cell[2])


def mended(cells):
    """The cells with a blank in the place of every half that has lost its other half."""
    kept = []
    column = 0
    while column < len(cells):
        if begins_pair(cells, column):
            kept.extend(cells[column:column + 2])
            column += 2
        else:
            kept.append(cells[column] if cells[column][1] == WHOLE else BLANK)
            column += 1
    return kept


def change_cells(row, cells):
    # The one way in which a row's cells change, so that no half is ever left alone.
    row.cells = mended(cells)


def cover_cells(row, column, cells):
    change_cells(row, row.cells[:column] + cells + row.cells[column + len(cells):])


def end_row_above(screen, row):
    if row > 0:
        screen.rows[row - 1].goes_on = False
