"""Calls written as lists of numbers, and answers parted again."""

from twosenders.calls import answer_call
from twosenders.screens import answers
from twosenders.session import Session

ESC = b"\x1b["


def size(width, height):
    return [0, width, height]


def send(i, comes, sent):
    return [1, i, comes, len(sent)] + list(sent)


def picture(i, comes):
    return [2, i, comes]


def beat(i):
    return [3, i]


def row(side, screen, number):
    return [4, side, screen, number]


def sure(screen, number):
    return [5, screen, number]


def pen(side, i):
    return [6, side, i]


def pensure(i):
    return [7, i]


def wrong():
    return [8]


def count(i):
    return [9, i]


def ask(*calls):
    """One list of numbers an answer, in the calls' order."""
    given = answers([number for call in calls for number in call])
    parted = []
    while given:
        parted.append(given[1:1 + given[0]])
        given = given[1 + given[0]:]
    assert len(parted) == len(calls)
    return parted


def all_told(height):
    """The calls that tell all there is to tell, on both sides and screens and of both senders."""
    both = (0, 1)
    rows = [row(side, screen, number) for side in both for screen in both for number in range(height)]
    cells = [sure(screen, number) for screen in both for number in range(height)]
    pens = [pen(side, i) for side in both for i in both]
    return rows + cells + pens + [pensure(0), pensure(1), wrong(), count(0), count(1)]


def signs(answer):
    return bytes(answer[1:1 + answer[0]])


def colours(answer):
    return answer[1 + answer[0]:]


def rows_after(calls, height, side=0, screen=0):
    given = ask(*calls, *[row(side, screen, number) for number in range(height)])
    return given[len(calls):]


def written(sent, width=6, height=2, screen=0, side=0):
    """The signs of a screen's rows, once the sender 0 has sent the bytes."""
    calls = [size(width, height), send(0, 1, sent)]
    return [signs(answer) for answer in rows_after(calls, height, side, screen)]


def coloured(sent, width=6, height=2):
    calls = [size(width, height), send(0, 1, sent)]
    return [colours(answer) for answer in rows_after(calls, height)]


def session_after(*calls):
    """The session itself, for what no call tells: which rows go on, and halves."""
    session = Session(6, 2)
    for call in calls:
        answer_call(session, call)
    return session
