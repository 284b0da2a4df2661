"""What a byte does that counts anew, but for the one that begins a control."""

from twosenders.cells import cells_of_sign, cover_cells, is_sign, is_wide
from twosenders.pens import go, move_down

BACK = 8
TAB = 9
NEW_ROW = 10
TO_START = 13
TAB_WIDTH = 4


def is_wrapped_first(screen, pen, byte):
    return pen.due or (is_wide(byte) and pen.column == screen.width - 1)


def wrap(screen, pen):
    screen.rows[pen.row].goes_on = True
    move_down(screen, pen)
    pen.column = 0
    pen.due = False


def write_sign(screen, pen, byte):
    if is_wrapped_first(screen, pen, byte):
        wrap(screen, pen)
    cells = cells_of_sign(byte, pen.colour)
    cover_cells(screen.rows[pen.row], pen.column, cells)
    behind = pen.column + len(cells)
    pen.column = min(behind, screen.width - 1)
    pen.due = behind == screen.width


def begin_new_row(screen, pen):
    screen.rows[pen.row].goes_on = False
    move_down(screen, pen)
    pen.due = False


def count_anew(screen, pen, byte):
    if is_sign(byte):
        write_sign(screen, pen, byte)
    elif byte == BACK:
        go(screen, pen, pen.row, pen.column - 1)
    elif byte == TAB:
        go(screen, pen, pen.row, (pen.column // TAB_WIDTH + 1) * TAB_WIDTH)
    elif byte == NEW_ROW:
        begin_new_row(screen, pen)
    elif byte == TO_START:
        go(screen, pen, pen.row, 0)
