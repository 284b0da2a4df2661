"""What each control does on the screen that its sender writes to."""

from twosenders.cells import blank_cells, blank_rows, change_cells, cover_cells, end_row_above
from twosenders.held import colour_told, first_number, has_fitting_numbers, region_told, second_number
from twosenders.moves import put_in, room, taken_out
from twosenders.pens import go, in_region


def go_up(screen, pen, numbers):
    go(screen, pen, pen.row - first_number(numbers, 1), pen.column)


def go_down(screen, pen, numbers):
    go(screen, pen, pen.row + first_number(numbers, 1), pen.column)


def go_right(screen, pen, numbers):
    go(screen, pen, pen.row, pen.column + first_number(numbers, 1))


def go_left(screen, pen, numbers):
    go(screen, pen, pen.row, pen.column - first_number(numbers, 1))


def go_to_place(screen, pen, numbers):
    go(screen, pen, first_number(numbers, 1) - 1, second_number(numbers, 1) - 1)


def columns_cleared(screen, pen, how):
    """The columns that K makes blank: the first one, and the one behind the last one."""
    if how == 0:
        return (pen.column, screen.width)
    return (0, pen.column + 1 if how == 1 else screen.width)


def rows_cleared(screen, pen, how):
    """The rows that J makes blank as a whole: the first one, and the one behind the last one."""
    if how == 0:
        return (pen.row + 1, len(screen.rows))
    return (0, pen.row if how == 1 else len(screen.rows))


def clear_columns(screen, pen, how):
    span = columns_cleared(screen, pen, how)
    row = screen.rows[pen.row]
    cover_cells(row, span[0], blank_cells(span[1] - span[0]))
    if span[1] == screen.width:
        row.goes_on = False


def clear_in_row(screen, pen, numbers):
    how = first_number(numbers, 0)
    if how > 2:
        return
    clear_columns(screen, pen, how)
    pen.due = False


def clear_in_screen(screen, pen, numbers):
    how = first_number(numbers, 0)
    if how > 2:
        return
    clear_columns(screen, pen, how)
    span = rows_cleared(screen, pen, how)
    fresh = blank_rows(screen.width, span[1] - span[0])
    screen.rows = screen.rows[:span[0]] + fresh + screen.rows[span[1]:]
    pen.due = False


def put_rows_in(screen, pen, numbers):
    if in_region(pen):
        end_row_above(screen, pen.row)
        fresh = blank_rows(screen.width, room(pen.row, pen.bottom, first_number(numbers, 1)))
        screen.rows = put_in(screen.rows, pen.row, pen.bottom, fresh)
        screen.rows[pen.bottom].goes_on = False
    pen.due = False


def take_rows_out(screen, pen, numbers):
    if in_region(pen):
        screen.rows[pen.bottom].goes_on = False
        end_row_above(screen, pen.row)
        fresh = blank_rows(screen.width, room(pen.row, pen.bottom, first_number(numbers, 1)))
        screen.rows = taken_out(screen.rows, pen.row, pen.bottom, fresh)
    pen.due = False


def put_cells_in(screen, pen, numbers):
    row = screen.rows[pen.row]
    last = screen.width - 1
    fresh = blank_cells(room(pen.column, last, first_number(numbers, 1)))
    change_cells(row, put_in(row.cells, pen.column, last, fresh))
    pen.due = False


def take_cells_out(screen, pen, numbers):
    row = screen.rows[pen.row]
    last = screen.width - 1
    fresh = blank_cells(room(pen.column, last, first_number(numbers, 1)))
    change_cells(row, taken_out(row.cells, pen.column, last, fresh))
    row.goes_on = False
    pen.due = False


def set_colour(screen, pen, numbers):
    colour = colour_told(numbers)
    if colour is not None:
        pen.colour = colour


def set_region(screen, pen, numbers):
    region = region_told(numbers, len(screen.rows))
    if region is not None:
        pen.top = region[0]
        pen.bottom = region[1]
        go(screen, pen, 0, 0)


def keep_place(screen, pen, numbers):
    pen.kept_row = pen.row
    pen.kept_column = pen.column


def go_to_kept_place(screen, pen, numbers):
    go(screen, pen, pen.kept_row, pen.kept_column)


ACTIONS = {
    "A": go_up,
    "B": go_down,
    "C": go_right,
    "D": go_left,
    "H": go_to_place,
    "J": clear_in_screen,
    "K": clear_in_row,
    "L": put_rows_in,
    "M": take_rows_out,
    "@": put_cells_in,
    "P": take_cells_out,
    "m": set_colour,
    "r": set_region,
    "s": keep_place,
    "u": go_to_kept_place,
}


def do_control(screen, pen, letter, numbers):
    if letter in ACTIONS and has_fitting_numbers(letter, numbers):
        ACTIONS[letter](screen, pen, numbers)
