"""How bytes that come change what the receiver may be sure of."""

from twosenders.doubt import doubt_anew, doubt_control
from twosenders.held import ESCAPE, ends_control, is_held_too, letter_of, numbers_told, screen_told
from twosenders.sureness import lose_screens, lose_sender


def shows_screen(held, byte):
    return ends_control(held, byte) and screen_told(letter_of(byte), numbers_told(held)) is not None


def doubt_shown_screen(sureness, side, i, byte):
    sender = side.senders[i]
    shown = sender.shown
    cells = sureness.screens[shown]
    trust = sureness.senders[i].pens[shown]
    screen = side.screens[shown]
    pen = sender.pens[shown]
    if ends_control(sender.held, byte):
        doubt_control(cells, trust, screen, pen, letter_of(byte), numbers_told(sender.held))
    else:
        doubt_anew(cells, trust, screen, pen, byte)


def doubt_byte(sureness, side, i, byte):
    """Changes what is sure as a byte that comes does; the side is as it is ahead of the byte."""
    trust = sureness.senders[i]
    held = side.senders[i].held
    if byte == ESCAPE:
        trust.held = True
    elif not trust.held:
        lose_sender(sureness, i)
    elif is_held_too(held, byte):
        return
    elif shows_screen(held, byte):
        trust.shown = True
    elif not trust.shown:
        lose_screens(sureness, i)
    else:
        doubt_shown_screen(sureness, side, i, byte)
