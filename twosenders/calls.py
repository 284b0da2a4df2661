"""The calls on a session: each looks at its refusals in their order, and answers a list of numbers."""

from twosenders.cells import RIGHT
from twosenders.session import counts, send_bytes, send_picture, tell_sent, wrong_cells


def is_one_of_two(number):
    return number == 0 or number == 1


def is_row(session, number):
    return 0 <= number < session.height


def ones(flags):
    return [1 if flag else 0 for flag in flags]


def size(session, call):
    width = call[1]
    height = call[2]
    if not 2 <= width <= 12 or not 1 <= height <= 6:
        return [-5]
    session.begin(width, height)
    return [width * height]


def send(session, call):
    if not is_one_of_two(call[1]):
        return [-2]
    if not is_one_of_two(call[2]):
        return [-5]
    send_bytes(session, call[1], call[2] == 1, call[4:])
    return counts(session, call[1])


def picture(session, call):
    if not is_one_of_two(call[1]):
        return [-2]
    if not is_one_of_two(call[2]):
        return [-5]
    send_picture(session, call[1], call[2] == 1)
    return counts(session, call[1])


def beat(session, call):
    if not is_one_of_two(call[1]):
        return [-2]
    tell_sent(session, call[1])
    return counts(session, call[1])


def row(session, call):
    if not is_one_of_two(call[1]) or not is_one_of_two(call[2]):
        return [-2]
    if not is_row(session, call[3]):
        return [-3]
    cells = session.sides[call[1]].screens[call[2]].rows[call[3]].cells
    signs = [cell[0] for cell in cells if cell[1] != RIGHT]
    return [len(signs)] + signs + [cell[2] for cell in cells]


def sure(session, call):
    if not is_one_of_two(call[1]):
        return [-2]
    if not is_row(session, call[2]):
        return [-3]
    return ones(session.sureness.screens[call[1]].rows[call[2]])


def pen(session, call):
    if not is_one_of_two(call[1]) or not is_one_of_two(call[2]):
        return [-2]
    sender = session.sides[call[1]].senders[call[2]]
    own = sender.pens[sender.shown]
    place = [own.row, own.column] + ones([own.due])
    kept = [own.kept_row, own.kept_column]
    return place + [own.colour, own.top, own.bottom] + kept + [sender.shown, len(sender.held)]


def pensure(session, call):
    if not is_one_of_two(call[1]):
        return [-2]
    trust = session.sureness.senders[call[1]]
    flags = [trust.held, trust.shown]
    for own in trust.pens:
        flags.extend([own.place, own.kept_place, own.colour, own.region])
    return ones(flags)


def wrong(session, call):
    told = wrong_cells(session)
    return [len(told), told.count(True)]


def count(session, call):
    if not is_one_of_two(call[1]):
        return [-2]
    return counts(session, call[1])


SEND = 1
CALLS = {0: size, 1: send, 2: picture, 3: beat, 4: row, 5: sure, 6: pen, 7: pensure, 8: wrong, 9: count}
# How many numbers a call has behind its own; of send the last of these is how many bytes follow.
NUMBERS = {0: 2, 1: 3, 2: 2, 3: 1, 4: 3, 5: 2, 6: 2, 7: 1, 8: 0, 9: 1}


def end_of_call(calls, at):
    end = at + 1 + NUMBERS[calls[at]]
    if calls[at] == SEND:
        end += calls[end - 1]
    return end


def answer_call(session, call):
    return CALLS[call[0]](session, call)
