"""A session: both sides, what the receiver is sure of, and the counts of pieces."""

from twosenders.receiving import doubt_byte
from twosenders.sides import Side, take_byte, take_picture
from twosenders.sureness import Sureness, lose_sender, trust_picture

SENDING = 0
RECEIVING = 1


class Session:
    def __init__(self, width, height):
        self.begin(width, height)

    def begin(self, width, height):
        self.height = height
        self.sides = [Side(width, height), Side(width, height)]
        self.sureness = Sureness(width, height)
        self.sent = [0, 0]
        self.known = [0, 0]
        self.lost = [0, 0]


def counts(session, i):
    return [session.sent[i], session.known[i], session.lost[i]]


def learn(session, i, many):
    """The receiver learns that the sender sent so many pieces; those it did not know of are lost."""
    missing = many - session.known[i]
    if missing > 0:
        session.lost[i] += missing
        session.known[i] = many
        lose_sender(session.sureness, i)


def count_piece(session, i, comes):
    if comes:
        learn(session, i, session.sent[i])
        session.known[i] += 1
    session.sent[i] += 1


def receive_byte(session, i, byte):
    side = session.sides[RECEIVING]
    doubt_byte(session.sureness, side, i, byte)
    take_byte(side, i, byte)


def send_bytes(session, i, comes, sent):
    count_piece(session, i, comes)
    for byte in sent:
        take_byte(session.sides[SENDING], i, byte)
        if comes:
            receive_byte(session, i, byte)


def send_picture(session, i, comes):
    count_piece(session, i, comes)
    if comes:
        take_picture(session.sides[RECEIVING], i, session.sides[SENDING])
        trust_picture(session.sureness, i)


def tell_sent(session, i):
    learn(session, i, session.sent[i])


def wrong_in_row(sent, received, sure):
    """For each cell that is not the same in both rows whether it is told sure."""
    return [sure[column] for column in range(len(sure)) if sent.cells[column] != received.cells[column]]


def wrong_cells(session):
    """For each cell that is not the same on both sides whether it is told sure."""
    told = []
    for screen in (0, 1):
        sent = session.sides[SENDING].screens[screen].rows
        received = session.sides[RECEIVING].screens[screen].rows
        sure = session.sureness.screens[screen].rows
        for number in range(session.height):
            told.extend(wrong_in_row(sent[number], received[number], sure[number]))
    return told
