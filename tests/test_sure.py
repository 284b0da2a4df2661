"""What is sure at the receiver, line by line, seen through sure and pensure."""

import random
import unittest

from tests.helper import ESC, ask, beat, pensure, picture, send, size, sure, wrong

ALL = "++++"
NONE = "----"


def shown(flags):
    return "".join("+" if flag else "-" for flag in flags)


def cells(calls, screen=0):
    """What is sure of each row there is, once the calls are made."""
    told = ask(*calls, *[sure(screen, number) for number in range(6)])[len(calls):]
    return [shown(answer) for answer in told if answer != [-3]]


def own(calls, i=0):
    """What's held and which screen; then of each screen the place, the kept place, the colour, the region."""
    told = shown(ask(*calls, pensure(i))[-1])
    return [told[:2], told[2:6], told[6:]]


def doubtful(*pieces, width=4, height=3, before=b""):
    """A piece of the sender 0 is lost, then its other pieces come."""
    return [size(width, height), send(0, 1, before), send(0, 0, b"")] + [send(0, 1, piece) for piece in pieces]


def one_unsure(sent, width=6, height=1, unsure=b"\x1b[1;3H"):
    """All is sure but the one cell into which a sign of an unsure colour was put; then the bytes come."""
    return doubtful(b"\x1b[47l\x1b[r\x1b[H\x1b[2J" + unsure + b"x" + sent, width=width, height=height)


class AtFirst(unittest.TestCase):
    def test_all_is_sure(self):
        calls = [size(4, 3)]
        for screen in (0, 1):
            self.assertEqual(cells(calls, screen), [ALL] * 3)
            self.assertEqual(own(calls, screen), ["++", ALL, ALL])

    def test_what_comes_stays_sure(self):
        calls = [size(4, 2), send(0, 1, b"abcdefghij\xc0\x1b[2J\x1b[P\x1b[L\x1b[47hxyz\x1b[u\x1b[")]
        self.assertEqual([cells(calls), cells(calls, 1)], [[ALL] * 2] * 2)
        self.assertEqual(own(calls), ["++", ALL, ALL])

    def test_what_is_not_known_to_be_lost_stays_sure(self):
        calls = [size(4, 2), send(0, 0, b"abc")]
        self.assertEqual(cells(calls), [ALL] * 2)
        self.assertEqual(own(calls), ["++", ALL, ALL])


class Lost(unittest.TestCase):
    def check_lost(self, calls):
        self.assertEqual([cells(calls), cells(calls, 1)], [[NONE] * 2] * 2)
        self.assertEqual(own(calls), ["--", NONE, NONE])
        self.assertEqual(own(calls, 1), ["++", ALL, ALL])

    def test_learned_from_a_beat(self):
        self.check_lost([size(4, 2), send(0, 0, b""), beat(0)])

    def test_learned_from_a_piece(self):
        self.check_lost([size(4, 2), send(0, 0, b""), send(0, 1, b"")])

    def test_a_lost_picture_is_lost_too(self):
        self.check_lost([size(4, 2), picture(0, 0), beat(0)])

    def test_told_again_nothing_more_is_lost(self):
        calls = [size(4, 2), send(0, 0, b""), beat(0), send(1, 1, b"\x1b[2J"), beat(0), beat(1)]
        self.assertEqual([cells(calls), cells(calls, 1)], [[ALL] * 2, [NONE] * 2])

    def test_a_picture_makes_sure_what_is_its_senders(self):
        calls = [size(4, 2), send(0, 0, b""), send(1, 0, b""), beat(0), picture(1, 1)]
        self.assertEqual([cells(calls), cells(calls, 1)], [[ALL] * 2] * 2)
        self.assertEqual([own(calls), own(calls, 1)], [["--", NONE, NONE], ["++", ALL, ALL]])

    def test_size_makes_all_new(self):
        calls = [size(4, 2), send(0, 0, b""), beat(0), size(4, 3)]
        self.assertEqual(cells(calls), [ALL] * 3)
        self.assertEqual(own(calls), ["++", ALL, ALL])


class HeldAndShown(unittest.TestCase):
    def test_27_makes_sure_what_is_held_alone(self):
        calls = doubtful(b"\x1b")
        self.assertEqual(own(calls), ["+-", NONE, NONE])
        self.assertEqual(cells(calls), [NONE] * 3)

    def test_other_bytes_leave_nothing_sure(self):
        # The sender 1 clears both screens; one byte of the sender 0 takes all of it back.
        for byte in b"a[K\x00\n\xc0":
            calls = [size(4, 1), send(0, 0, b""), beat(0), send(1, 1, b"\x1b[2J\x1b[47h\x1b[2J"),
                     send(0, 1, bytes([byte]))]
            self.assertEqual([cells(calls), cells(calls, 1)], [[NONE], [NONE]])
            self.assertEqual(own(calls), ["--", NONE, NONE])
            self.assertEqual(own(calls, 1), ["++", ALL, ALL])

    def test_bytes_behind_what_may_not_be_held_leave_nothing_sure(self):
        # The receiver holds 27 [ still, but nobody knows whether the sender does.
        for sent in (b"4", b";", b"47h", b"47l", b"H", b"2J"):
            calls = [size(4, 1), send(0, 1, b"\x1b["), send(0, 0, b""), beat(0),
                     send(1, 1, b"\x1b[2J\x1b[47h\x1b[2J"), send(0, 1, sent)]
            self.assertEqual([cells(calls), cells(calls, 1)], [[NONE], [NONE]], sent)
            self.assertEqual([own(calls), own(calls, 1)], [["--", NONE, NONE], ["++", ALL, ALL]], sent)

    def test_27_in_the_midst_of_a_control_changes_nothing_else(self):
        calls = [size(4, 1), send(0, 1, b"a\x1b[4"), send(0, 1, b"\x1b")]
        self.assertEqual([cells(calls), cells(calls, 1)], [[ALL], [ALL]])
        self.assertEqual(own(calls), ["++", ALL, ALL])
        calls = [size(4, 1), send(0, 1, b"a\x1b[4"), send(0, 0, b""), beat(0), send(1, 1, b"\x1b[2J"),
                 send(0, 1, b"\x1b")]
        self.assertEqual([cells(calls), cells(calls, 1)], [[ALL], [NONE]])
        self.assertEqual(own(calls), ["+-", NONE, NONE])

    def test_bytes_held_change_nothing(self):
        calls = [size(4, 1), send(0, 0, b""), beat(0), send(1, 1, b"\x1b[2J"), send(0, 1, b"\x1b[4;7")]
        self.assertEqual(own(calls), ["+-", NONE, NONE])
        self.assertEqual(cells(calls), [ALL])

    def test_screen_told(self):
        for letter in b"hl":
            self.assertEqual(own(doubtful(b"\x1b[47" + bytes([letter]))), ["++", NONE, NONE])
            calls = [size(4, 1), send(0, 0, b""), beat(0), send(1, 1, b"\x1b[2J\x1b[47h\x1b[2J"),
                     send(0, 1, b"\x1b[0047" + bytes([letter]))]
            self.assertEqual(own(calls), ["++", NONE, NONE])
            self.assertEqual([cells(calls), cells(calls, 1)], [[ALL], [ALL]])

    def test_other_bytes_while_the_screen_is_not_sure(self):
        for sent in (b"\x1b[H", b"\x1b[m", b"\x1b[46h", b"\x1b[47;h", b"\x1b[Q", b"\x1b \r", b"\x1b\x00",
                     b"\x1b[1;2;3H"):
            calls = [size(4, 1), send(0, 0, b""), beat(0), send(1, 1, b"\x1b[2J\x1b[47h\x1b[2J"),
                     send(0, 1, sent)]
            self.assertEqual([cells(calls), cells(calls, 1)], [[NONE], [NONE]])
            self.assertEqual(own(calls), ["+-", NONE, NONE])

    def test_the_screen_written_to_alone(self):
        calls = doubtful(b"\x1b[47h\x1b[H\x1b[2J")
        self.assertEqual([cells(calls), cells(calls, 1)], [[NONE] * 3, [ALL] * 3])
        self.assertEqual(own(calls), ["++", NONE, "+---"])


class OwnState(unittest.TestCase):
    def check(self, sent, told):
        self.assertEqual(own(doubtful(b"\x1b[47l" + sent)), ["++", told, NONE])

    def test_going_to_a_place(self):
        self.check(b"\x1b[H", "+---")
        self.check(b"\x1b[1;2H", "+---")
        self.check(b"\x1b[1;2;3H", NONE)

    def test_region(self):
        self.check(b"\x1b[r", "+--+")
        self.check(b"\x1b[2;3r", "+--+")
        self.check(b"\x1b[3;2r", NONE)
        self.check(b"\x1b[1;4r", NONE)

    def test_colour(self):
        self.check(b"\x1b[m", "--+-")
        self.check(b"\x1b[37m", "--+-")
        self.check(b"\x1b[38m", NONE)
        self.check(b"\x1b[31;m", NONE)

    def test_kept_place(self):
        self.check(b"\x1b[s", NONE)
        self.check(b"\x1b[H\x1b[s", "++--")
        self.check(b"\x1b[H\x1b[u", NONE)
        self.check(b"\x1b[H\x1b[s\x1b[3;3H\x1b[u", "++--")

    def test_steps_leave_it(self):
        for sent in (b"\r", b"\x08", b"\t", b"\x1b[A", b"\x1b[B", b"\x1b[C", b"\x1b[D"):
            self.check(sent, NONE)
            self.check(b"\x1b[H" + sent, "+---")

    def test_kept_place_becomes_unsure_again(self):
        calls = doubtful(b"\x1b[47l\x1b[H\x1b[s\nx\x1b[s")
        self.assertEqual(own(calls), ["++", NONE, NONE])


class Signs(unittest.TestCase):
    def test_place_not_sure(self):
        calls = doubtful(b"\x1b[47l\x1b[2Ja")
        self.assertEqual(cells(calls), [NONE] * 3)

    def test_colour_sure_or_not(self):
        self.assertEqual(cells(doubtful(b"\x1b[47l\x1b[2;2H\x1b[2J\x1b[ma")), [ALL] * 3)
        self.assertEqual(cells(doubtful(b"\x1b[47l\x1b[2;2H\x1b[2Ja")), [ALL, "+-++", ALL])
        self.assertEqual(cells(doubtful(b"\x1b[47l\x1b[2;2H\x1b[2J\xc0")), [ALL, "+--+", ALL])

    def test_neighbours_of_what_was_sure_stay(self):
        self.assertEqual(cells(one_unsure(b"\x1b[m\x1b[1;2Ha")), ["++-+++"])
        self.assertEqual(cells(one_unsure(b"\x1b[m\x1b[1;4Ha")), ["++-+++"])

    def test_neighbours_of_what_was_not_sure_go(self):
        self.assertEqual(cells(one_unsure(b"\x1b[m\x1b[1;3Ha")), ["+-+-++"])
        self.assertEqual(cells(one_unsure(b"\x1b[m\x1b[1;3H\xc0")), ["+-++++"])
        self.assertEqual(cells(one_unsure(b"\x1b[m\x1b[1;2H\xc0")), ["+++-++"])

    def test_at_the_rows_ends(self):
        self.assertEqual(cells(one_unsure(b"\x1b[m\x1b[Ha", unsure=b"\x1b[H")), ["+-++++"])
        self.assertEqual(cells(one_unsure(b"\x1b[m\x1b[1;6Ha", unsure=b"\x1b[1;6H")), ["++++-+"])

    def test_wrapped_with_the_region_sure(self):
        calls = one_unsure(b"\x1b[m\x1b[2;5Hbcd", height=2)
        self.assertEqual(cells(calls), ["++++++", "++++++"])
        calls = one_unsure(b"\x1b[m\x1b[2;5Hbcd", height=2, unsure=b"\x1b[2;3H")
        self.assertEqual(cells(calls), ["++-+++", "++++++"])
        calls = one_unsure(b"\x1b[m\x1b[1;5Hbcd", height=2, unsure=b"\x1b[2;1H")
        self.assertEqual(cells(calls), ["++++++", "+-++++"])

    def test_wide_in_the_last_column_is_wrapped(self):
        calls = one_unsure(b"\x1b[m\x1b[1;6H\xc0", height=2, unsure=b"\x1b[1;6H")
        self.assertEqual(cells(calls), ["+++++-", "++++++"])

    def test_wrapped_with_the_region_not_sure(self):
        calls = doubtful(b"\x1b[47l\x1b[H\x1b[2J\x1b[mabcde")
        self.assertEqual(cells(calls), [NONE] * 3)
        self.assertEqual(own(calls), ["++", "--+-", NONE])


class Down(unittest.TestCase):
    def test_place_or_region_not_sure(self):
        calls = doubtful(b"\x1b[47l\x1b[2J\n")
        self.assertEqual(cells(calls), [NONE] * 3)
        calls = doubtful(b"\x1b[47l\x1b[H\x1b[2J\n")
        self.assertEqual(cells(calls), [NONE] * 3)
        self.assertEqual(own(calls), ["++", NONE, NONE])
        # The region is sure, the place is not: the unsure kept place was gone to.
        calls = doubtful(b"\x1b[47l\x1b[r\x1b[2J\x1b[u\n")
        self.assertEqual(cells(calls), [NONE] * 3)
        self.assertEqual(own(calls), ["++", "---+", NONE])

    def test_moves_with_the_rows(self):
        calls = doubtful(b"\x1b[47l\x1b[2;3r\x1b[2J\x1b[3;2Hx\x1b[3H\n")
        self.assertEqual(cells(calls), [ALL, "+-++", ALL])
        calls = doubtful(b"\x1b[47l\x1b[2;3r\x1b[2J\x1b[1;2Hx\x1b[3H\n")
        self.assertEqual(cells(calls), ["+-++", ALL, ALL])

    def test_no_row_taken_out(self):
        calls = doubtful(b"\x1b[47l\x1b[r\x1b[2K\n")
        self.assertEqual(cells(calls), [ALL, NONE, NONE])


class Clearing(unittest.TestCase):
    def test_in_the_row_with_the_place_not_sure(self):
        for how in (b"", b"0", b"1", b"2"):
            self.assertEqual(cells(doubtful(b"\x1b[47l\x1b[2J" + ESC + how + b"K")), [NONE] * 3)
        self.assertEqual(cells(doubtful(b"\x1b[47l\x1b[2J\x1b[3K")), [ALL] * 3)

    def test_in_the_row(self):
        told = b"\x1b[47l\x1b[2;2H"
        self.assertEqual(cells(doubtful(told + b"\x1b[K")), [NONE, "-+++", NONE])
        self.assertEqual(cells(doubtful(told + b"\x1b[1K")), [NONE, "++--", NONE])
        self.assertEqual(cells(doubtful(told + b"\x1b[2K")), [NONE, ALL, NONE])

    def test_the_cell_beside_the_cursors(self):
        self.assertEqual(cells(one_unsure(b"\x1b[1;3H\x1b[K")), ["+-++++"])
        self.assertEqual(cells(one_unsure(b"\x1b[1;3H\x1b[1K")), ["+++-++"])
        self.assertEqual(cells(one_unsure(b"\x1b[1;3H\x1b[2K")), ["++++++"])
        self.assertEqual(cells(one_unsure(b"\x1b[1;2H\x1b[K")), ["++++++"])
        self.assertEqual(cells(one_unsure(b"\x1b[1;4H\x1b[1K")), ["++++++"])
        self.assertEqual(cells(one_unsure(b"\x1b[1;4H\x1b[K")), ["++-+++"])
        self.assertEqual(cells(one_unsure(b"\x1b[1;2H\x1b[K", unsure=b"\x1b[1;2H")), ["-+++++"])
        self.assertEqual(cells(one_unsure(b"\x1b[1;5H\x1b[1K", unsure=b"\x1b[1;5H")), ["+++++-"])

    def test_in_the_screen(self):
        told = b"\x1b[47l\x1b[2;2H"
        self.assertEqual(cells(doubtful(told + b"\x1b[J")), [NONE, "-+++", ALL])
        self.assertEqual(cells(doubtful(told + b"\x1b[1J")), [ALL, "++--", NONE])
        self.assertEqual(cells(doubtful(told + b"\x1b[2J")), [ALL] * 3)
        self.assertEqual(cells(doubtful(told + b"\x1b[3J")), [NONE] * 3)

    def test_in_the_screen_with_the_place_not_sure(self):
        self.assertEqual(cells(doubtful(b"\x1b[47l\x1b[2J")), [ALL] * 3)
        for how in (b"", b"0", b"1"):
            self.assertEqual(cells(doubtful(b"\x1b[47l\x1b[2J" + ESC + how + b"J")), [NONE] * 3)
        self.assertEqual(cells(doubtful(b"\x1b[47l\x1b[2J\x1b[3J")), [ALL] * 3)


class RowsMoved(unittest.TestCase):
    def test_place_or_region_not_sure(self):
        for letter in b"LM":
            last = ESC + bytes([letter])
            self.assertEqual(cells(doubtful(b"\x1b[47l\x1b[2J" + last)), [NONE] * 3)
            self.assertEqual(cells(doubtful(b"\x1b[47l\x1b[H\x1b[2J" + last)), [NONE] * 3)
            self.assertEqual(cells(doubtful(b"\x1b[47l\x1b[r\x1b[2J\x1b[u" + last)), [NONE] * 3)
            # The place is not lost by it.
            self.assertEqual(own(doubtful(b"\x1b[47l\x1b[H" + last))[1], "+---")

    def test_put_in(self):
        told = b"\x1b[47l\x1b[r\x1b[2J\x1b[2;2Hx"
        self.assertEqual(cells(doubtful(told + b"\x1b[1H\x1b[L")), [ALL, ALL, "+-++"])
        self.assertEqual(cells(doubtful(told + b"\x1b[1H\x1b[9L")), [ALL] * 3)
        self.assertEqual(cells(doubtful(told + b"\x1b[3H\x1b[L")), [ALL, "+-++", ALL])
        self.assertEqual(cells(doubtful(b"\x1b[47l\x1b[r\x1b[2H\x1b[L")), [NONE, ALL, NONE])

    def test_taken_out(self):
        told = b"\x1b[47l\x1b[r\x1b[2J\x1b[2;2Hx"
        self.assertEqual(cells(doubtful(told + b"\x1b[1H\x1b[M")), ["+-++", ALL, ALL])
        self.assertEqual(cells(doubtful(told + b"\x1b[2H\x1b[9M")), [ALL] * 3)
        self.assertEqual(cells(doubtful(told + b"\x1b[3H\x1b[M")), [ALL, "+-++", ALL])
        self.assertEqual(cells(doubtful(b"\x1b[47l\x1b[r\x1b[2H\x1b[M")), [NONE, NONE, ALL])

    def test_outside_the_region(self):
        for letter in b"LM":
            calls = doubtful(b"\x1b[47l\x1b[2;3r\x1b[2J\x1b[2;2Hx\x1b[H" + ESC + bytes([letter]))
            self.assertEqual(cells(calls), [ALL, "+-++", ALL])


class CellsMoved(unittest.TestCase):
    def test_place_not_sure(self):
        for letter in b"@P":
            self.assertEqual(cells(doubtful(b"\x1b[47l\x1b[2J" + ESC + bytes([letter]))), [NONE] * 3)

    def test_row_all_sure_or_not_at_all(self):
        for letter in b"@P":
            last = ESC + bytes([letter])
            self.assertEqual(cells(one_unsure(b"\x1b[1;6H" + last, height=2)), ["------", "++++++"])
            self.assertEqual(cells(one_unsure(b"\x1b[2;1H" + last, height=2)), ["++-+++", "++++++"])


class EachSenderAndScreen(unittest.TestCase):
    # What is sent once it is sure which screen; what is sure then of the screen's cells, and of its sender.
    LINES = (
        (b"", [NONE] * 3, NONE),
        (b"a", [NONE] * 3, NONE),
        (b"\x1b[H", [NONE] * 3, "+---"),
        (b"\x1b[1;9r", [NONE] * 3, NONE),
        (b"\x1b[1;2r", [NONE] * 3, "+--+"),
        (b"\x1b[33m", [NONE] * 3, "--+-"),
        (b"\x1b[2;2H\x1b[s", [NONE] * 3, "++--"),
        (b"\x1b[2;2H\x1b[u", [NONE] * 3, NONE),
        (b"\x1b[2;2Ha", [NONE, "----", NONE], "+---"),
        (b"\x1b[m\x1b[2;2Ha", [NONE, "-+--", NONE], "+-+-"),
        (b"\x1b[m\x1b[2;2H\xc0", [NONE, "-++-", NONE], "+-+-"),
        (b"\x1b[m\x1b[2;4Hab", [NONE] * 3, "--+-"),
        (b"\x1b[m\x1b[r\x1b[3;3Habc", [NONE, "---+", ALL], "+-++"),
        (b"\x1b[2;2H\n", [NONE] * 3, NONE),
        (b"\x1b[r\x1b[2;2H\n", [NONE] * 3, "+--+"),
        (b"\x1b[r\x1b[3;2H\n", [NONE, NONE, ALL], "+--+"),
        (b"\x1b[2J", [ALL] * 3, NONE),
        (b"\x1b[2J\x1b[J", [NONE] * 3, NONE),
        (b"\x1b[2;2H\x1b[J", [NONE, "-+++", ALL], "+---"),
        (b"\x1b[2;2H\x1b[1J", [ALL, "++--", NONE], "+---"),
        (b"\x1b[2J\x1b[2K", [NONE] * 3, NONE),
        (b"\x1b[2;2H\x1b[K", [NONE, "-+++", NONE], "+---"),
        (b"\x1b[2;2H\x1b[1K", [NONE, "++--", NONE], "+---"),
        (b"\x1b[2;2H\x1b[2K", [NONE, ALL, NONE], "+---"),
        (b"\x1b[2J\x1b[L", [NONE] * 3, NONE),
        (b"\x1b[2J\x1b[2;2H\x1b[M", [NONE] * 3, "+---"),
        (b"\x1b[r\x1b[2;2H\x1b[L", [NONE, ALL, NONE], "+--+"),
        (b"\x1b[r\x1b[2;2H\x1b[M", [NONE, NONE, ALL], "+--+"),
        (b"\x1b[2J\x1b[@", [NONE] * 3, NONE),
        (b"\x1b[2J\x1b[2;2H\x1b[P", [ALL] * 3, "+---"),
        (b"\x1b[2;2H\x1b[K\x1b[@", [NONE] * 3, "+---"),
        (b"\x1b[2J\x1b[2;2H\r\x08\t\x00\x1b[A\x1b[q\x1b[3K\x1b[38m", [ALL] * 3, "+---"),
    )

    def test_each_line(self):
        for i in (0, 1):
            for screen in (0, 1):
                for sent, sure_cells, sure_own in self.LINES:
                    calls = [size(4, 3), send(i, 0, b""), send(i, 1, b"\x1b[47" + b"lh"[screen:screen + 1] + sent)]
                    at = (i, screen, sent)
                    pens = [NONE, NONE]
                    pens[screen] = sure_own
                    self.assertEqual(cells(calls, screen), sure_cells, at)
                    self.assertEqual(cells(calls, 1 - screen), [NONE] * 3, at)
                    self.assertEqual(own(calls, i), ["++"] + pens, at)
                    self.assertEqual(own(calls, 1 - i), ["++", ALL, ALL], at)


def random_bytes(source):
    pieces = [b"a", b"b", b"\xc0", b"\xc1", b"\n", b"\r", b"\x08", b"\t", b"\x1b", b"\x1b[", b"7", b"\x00"]
    controls = [b"1;2H", b"2;1H", b"H", b"r", b"1;2r", b"2;3r", b"J", b"1J", b"2J", b"K", b"1K", b"2K", b"L", b"2M",
                b"@", b"2P", b"m", b"31m", b"s", b"u", b"47h", b"47l", b"A", b"B", b"C", b"2D"]
    pieces = pieces + [ESC + control for control in controls]
    return b"".join(source.choice(pieces) for number in range(source.randint(0, 8)))


class NothingWrongIsSure(unittest.TestCase):
    def test_when_all_losses_are_known(self):
        source = random.Random(59)
        seen = 0
        for number in range(400):
            calls = [size(source.randint(2, 5), source.randint(1, 3))]
            for piece in range(12):
                calls.append(send(source.randint(0, 1), int(source.random() < 0.8), random_bytes(source)))
            calls += [beat(0), beat(1), send(0, 1, random_bytes(source)), send(1, 1, random_bytes(source)), wrong()]
            told = ask(*calls)[-1]
            seen += told[0]
            self.assertEqual(told[1], 0, calls)
        self.assertGreater(seen, 100)


if __name__ == "__main__":
    unittest.main()
