"""A sender's own state on one screen, and how its cursor moves."""

from twosenders.cells import blank_rows, end_row_above
from twosenders.moves import taken_out


class Pen:
    def __init__(self, height):
        self.row = 0
        self.column = 0
        self.due = False
        self.colour = 0
        self.top = 0
        self.bottom = height - 1
        self.kept_row = 0
        self.kept_column = 0


def copied_pen(pen):
    other = Pen(0)
    other.row = pen.row
    other.column = pen.column
    other.due = pen.due
    other.colour = pen.colour
    other.top = pen.top
    other.bottom = pen.bottom
    other.kept_row = pen.kept_row
    other.kept_column = pen.kept_column
    return other


def in_region(pen):
    return pen.top <= pen.row <= pen.bottom


def go(screen, pen, row, column):
    pen.row = max(0, min(row, len(screen.rows) - 1))
    pen.column = max(0, min(column, screen.width - 1))
    pen.due = False


def row_after_down(screen, pen):
    if pen.row == pen.bottom:
        return pen.row
    return min(pen.row + 1, len(screen.rows) - 1)


def move_down(screen, pen):
    if pen.row == pen.bottom:
        end_row_above(screen, pen.top)
        screen.rows = taken_out(screen.rows, pen.top, pen.bottom, blank_rows(screen.width, 1))
    pen.row = row_after_down(screen, pen)
