"""A side: both screens' rows, and of each sender all that is its own."""

from twosenders.cells import Screen, copied_screen
from twosenders.controls import do_control
from twosenders.held import ESCAPE, ends_control, is_held_too, letter_of, numbers_told, screen_told
from twosenders.pens import Pen, copied_pen
from twosenders.writing import count_anew


class Sender:
    def __init__(self, height):
        self.shown = 0
        self.held = []
        self.pens = [Pen(height), Pen(height)]


class Side:
    def __init__(self, width, height):
        self.screens = [Screen(width, height), Screen(width, height)]
        self.senders = [Sender(height), Sender(height)]


def copied_sender(sender):
    other = Sender(0)
    other.shown = sender.shown
    other.held = list(sender.held)
    other.pens = [copied_pen(pen) for pen in sender.pens]
    return other


def end_control(side, sender, letter, numbers):
    shown = screen_told(letter, numbers)
    if shown is None:
        do_control(side.screens[sender.shown], sender.pens[sender.shown], letter, numbers)
    else:
        sender.shown = shown


def take_byte(side, i, byte):
    sender = side.senders[i]
    held = sender.held
    if is_held_too(held, byte):
        sender.held = held + [byte]
        return
    sender.held = [byte] if byte == ESCAPE else []
    if ends_control(held, byte):
        end_control(side, sender, letter_of(byte), numbers_told(held))
    else:
        count_anew(side.screens[sender.shown], sender.pens[sender.shown], byte)


def take_picture(side, i, original):
    side.screens = [copied_screen(screen) for screen in original.screens]
    side.senders[i] = copied_sender(original.senders[i])
