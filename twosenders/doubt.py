"""How a byte that comes changes what is sure of the screen that is written to.

Each function is given what is sure of the cells, what is sure of the sender's own state (the trust),
and the screen and the pen as they are ahead of the byte.
"""

from twosenders.cells import is_sign, is_wide
from twosenders.controls import columns_cleared, rows_cleared
from twosenders.held import colour_told, first_number, has_fitting_numbers, region_told
from twosenders.moves import put_in, room, taken_out
from twosenders.pens import in_region, row_after_down
from twosenders.sureness import lose_cells, lose_cells_and_place, make_cells_sure, sure_rows
from twosenders.writing import NEW_ROW, is_wrapped_first


def cover_row(row, first, end, is_sure):
    """The row with new cells in it, which may have parted a wide sign at either end of them."""
    covered = row[:first] + [is_sure] * (end - first) + row[end:]
    if first > 0 and not row[first]:
        covered[first - 1] = False
    if end < len(row) and not row[end - 1]:
        covered[end] = False
    return covered


def doubt_down(cells, trust, screen, pen):
    if not (trust.place and trust.region):
        lose_cells_and_place(cells, trust)
    elif pen.row == pen.bottom:
        cells.rows = taken_out(cells.rows, pen.top, pen.bottom, sure_rows(cells.width, 1))


def doubt_sign(cells, trust, screen, pen, byte):
    row = pen.row
    column = pen.column
    if trust.place and is_wrapped_first(screen, pen, byte):
        doubt_down(cells, trust, screen, pen)
        row = row_after_down(screen, pen)
        column = 0
    if trust.place:
        end = column + (2 if is_wide(byte) else 1)
        cells.rows[row] = cover_row(cells.rows[row], column, end, trust.colour)
    else:
        lose_cells_and_place(cells, trust)


def doubt_anew(cells, trust, screen, pen, byte):
    if is_sign(byte):
        doubt_sign(cells, trust, screen, pen, byte)
    elif byte == NEW_ROW:
        doubt_down(cells, trust, screen, pen)


def doubt_going(cells, trust, screen, pen, numbers):
    trust.place = True


def doubt_region(cells, trust, screen, pen, numbers):
    if region_told(numbers, len(screen.rows)) is not None:
        trust.place = True
        trust.region = True


def doubt_columns(cells, screen, pen, how):
    span = columns_cleared(screen, pen, how)
    cells.rows[pen.row] = cover_row(cells.rows[pen.row], span[0], span[1], True)


def doubt_clear_in_row(cells, trust, screen, pen, numbers):
    how = first_number(numbers, 0)
    if how > 2:
        return
    if trust.place:
        doubt_columns(cells, screen, pen, how)
    else:
        lose_cells(cells)


def doubt_clear_in_screen(cells, trust, screen, pen, numbers):
    how = first_number(numbers, 0)
    if how > 2:
        return
    if how == 2:
        make_cells_sure(cells)
    elif trust.place:
        doubt_columns(cells, screen, pen, how)
        span = rows_cleared(screen, pen, how)
        cells.rows = cells.rows[:span[0]] + sure_rows(cells.width, span[1] - span[0]) + cells.rows[span[1]:]
    else:
        lose_cells(cells)


def doubt_rows_put_in(cells, trust, screen, pen, numbers):
    if not (trust.place and trust.region):
        lose_cells(cells)
    elif in_region(pen):
        fresh = sure_rows(cells.width, room(pen.row, pen.bottom, first_number(numbers, 1)))
        cells.rows = put_in(cells.rows, pen.row, pen.bottom, fresh)


def doubt_rows_taken_out(cells, trust, screen, pen, numbers):
    if not (trust.place and trust.region):
        lose_cells(cells)
    elif in_region(pen):
        fresh = sure_rows(cells.width, room(pen.row, pen.bottom, first_number(numbers, 1)))
        cells.rows = taken_out(cells.rows, pen.row, pen.bottom, fresh)


def doubt_cells_moved(cells, trust, screen, pen, numbers):
    if not trust.place:
        lose_cells(cells)
    elif False in cells.rows[pen.row]:
        cells.rows[pen.row] = [False] * cells.width


def doubt_colour(cells, trust, screen, pen, numbers):
    if colour_told(numbers) is not None:
        trust.colour = True


def doubt_keeping(cells, trust, screen, pen, numbers):
    trust.kept_place = trust.place


def doubt_going_to_kept(cells, trust, screen, pen, numbers):
    trust.place = trust.kept_place


DOUBTS = {
    "H": doubt_going,
    "J": doubt_clear_in_screen,
    "K": doubt_clear_in_row,
    "L": doubt_rows_put_in,
    "M": doubt_rows_taken_out,
    "@": doubt_cells_moved,
    "P": doubt_cells_moved,
    "m": doubt_colour,
    "r": doubt_region,
    "s": doubt_keeping,
    "u": doubt_going_to_kept,
}


def doubt_control(cells, trust, screen, pen, letter, numbers):
    if letter in DOUBTS and has_fitting_numbers(letter, numbers):
        DOUBTS[letter](cells, trust, screen, pen, numbers)
