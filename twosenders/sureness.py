"""What is sure on the receiving side: of each cell, and of each sender's own state."""


class SureCells:
    def __init__(self, width, height):
        self.width = width
        self.rows = sure_rows(width, height)


class SurePen:
    def __init__(self):
        self.place = True
        self.kept_place = True
        self.colour = True
        self.region = True


class SureSender:
    def __init__(self):
        self.held = True
        self.shown = True
        self.pens = [SurePen(), SurePen()]


class Sureness:
    def __init__(self, width, height):
        self.screens = [SureCells(width, height), SureCells(width, height)]
        self.senders = [SureSender(), SureSender()]


def sure_rows(width, many):
    return [[True] * width for place in range(many)]


def make_cells_sure(cells):
    cells.rows = sure_rows(cells.width, len(cells.rows))


def lose_cells(cells):
    cells.rows = [[False] * cells.width for row in cells.rows]


def lose_cells_and_place(cells, trust):
    lose_cells(cells)
    trust.place = False


def lose_screens(sureness, i):
    """Nothing is sure of what the sender has of each screen, nor any cell."""
    for cells in sureness.screens:
        lose_cells(cells)
    for trust in sureness.senders[i].pens:
        trust.place = False
        trust.kept_place = False
        trust.colour = False
        trust.region = False


def lose_sender(sureness, i):
    """Nothing is sure of the sender, nor any cell."""
    lose_screens(sureness, i)
    sureness.senders[i].held = False
    sureness.senders[i].shown = False


def trust_picture(sureness, i):
    for cells in sureness.screens:
        make_cells_sure(cells)
    sureness.senders[i] = SureSender()
