"""What is sure at the receiver; the session itself is looked at."""

import random
import unittest

from tests.helper import ESC, beat, picture, send, session_after, size

ALL = "++++"
NONE = "----"


def shown(flags):
    return "".join("+" if flag else "-" for flag in flags)


def cells(session, screen=0):
    return [shown(row) for row in session.sureness.screens[screen].rows]


def own(session, i=0):
    """What's held and which screen; then of each screen the place, the kept place, the colour, the region."""
    sure = session.sureness.senders[i]
    pens = [shown([pen.place, pen.kept_place, pen.colour, pen.region]) for pen in sure.pens]
    return [shown([sure.held, sure.shown])] + pens


def doubtful(*pieces, width=4, height=3, before=b""):
    """A piece of the sender 0 is lost, then its other pieces come."""
    return session_after(size(width, height), send(0, 1, before), send(0, 0, b""),
                         *[send(0, 1, piece) for piece in pieces])


def one_unsure(sent, width=6, height=1, unsure=b"\x1b[1;3H"):
    """All is sure but the one cell into which a sign of an unsure colour was put; then the bytes come."""
    return doubtful(b"\x1b[47l\x1b[r\x1b[H\x1b[2J" + unsure + b"x" + sent, width=width, height=height)


class AtFirst(unittest.TestCase):
    def test_all_is_sure(self):
        session = session_after(size(4, 3))
        for screen in (0, 1):
            self.assertEqual(cells(session, screen), [ALL] * 3)
            self.assertEqual(own(session, screen), ["++", ALL, ALL])

    def test_what_comes_stays_sure(self):
        session = session_after(size(4, 2), send(0, 1, b"abcdefghij\xc0\x1b[2J\x1b[P\x1b[L\x1b[47hxyz\x1b[u\x1b["))
        self.assertEqual([cells(session), cells(session, 1)], [[ALL] * 2] * 2)
        self.assertEqual(own(session), ["++", ALL, ALL])

    def test_what_is_not_known_to_be_lost_stays_sure(self):
        session = session_after(size(4, 2), send(0, 0, b"abc"))
        self.assertEqual(cells(session), [ALL] * 2)
        self.assertEqual(own(session), ["++", ALL, ALL])


class Lost(unittest.TestCase):
    def check_lost(self, session):
        self.assertEqual([cells(session), cells(session, 1)], [[NONE] * 2] * 2)
        self.assertEqual(own(session), ["--", NONE, NONE])
        self.assertEqual(own(session, 1), ["++", ALL, ALL])

    def test_learned_from_a_beat(self):
        self.check_lost(session_after(size(4, 2), send(0, 0, b""), beat(0)))

    def test_learned_from_a_piece(self):
        self.check_lost(session_after(size(4, 2), send(0, 0, b""), send(0, 1, b"")))

    def test_a_lost_picture_is_lost_too(self):
        self.check_lost(session_after(size(4, 2), picture(0, 0), beat(0)))

    def test_told_again_nothing_more_is_lost(self):
        session = session_after(size(4, 2), send(0, 0, b""), beat(0), send(1, 1, b"\x1b[2J"), beat(0), beat(1))
        self.assertEqual([cells(session), cells(session, 1)], [[ALL] * 2, [NONE] * 2])

    def test_a_picture_makes_sure_what_is_its_senders(self):
        session = session_after(size(4, 2), send(0, 0, b""), send(1, 0, b""), beat(0), picture(1, 1))
        self.assertEqual([cells(session), cells(session, 1)], [[ALL] * 2] * 2)
        self.assertEqual([own(session), own(session, 1)], [["--", NONE, NONE], ["++", ALL, ALL]])

    def test_size_makes_all_new(self):
        session = session_after(size(4, 2), send(0, 0, b""), beat(0), size(4, 3))
        self.assertEqual(cells(session), [ALL] * 3)
        self.assertEqual(own(session), ["++", ALL, ALL])


class HeldAndShown(unittest.TestCase):
    def test_27_makes_sure_what_is_held_alone(self):
        session = doubtful(b"\x1b")
        self.assertEqual(own(session), ["+-", NONE, NONE])
        self.assertEqual(cells(session), [NONE] * 3)

    def test_other_bytes_leave_nothing_sure(self):
        # The sender 1 clears both screens; one byte of the sender 0 takes all of it back.
        for byte in b"a[K\x00\n\xc0":
            session = session_after(size(4, 1), send(0, 0, b""), beat(0), send(1, 1, b"\x1b[2J\x1b[47h\x1b[2J"),
                                    send(0, 1, bytes([byte])))
            self.assertEqual([cells(session), cells(session, 1)], [[NONE], [NONE]])
            self.assertEqual(own(session), ["--", NONE, NONE])
            self.assertEqual(own(session, 1), ["++", ALL, ALL])

    def test_bytes_held_change_nothing(self):
        session = session_after(size(4, 1), send(0, 0, b""), beat(0), send(1, 1, b"\x1b[2J"), send(0, 1, b"\x1b[4;7"))
        self.assertEqual(own(session), ["+-", NONE, NONE])
        self.assertEqual(cells(session), [ALL])

    def test_screen_told(self):
        for letter in b"hl":
            self.assertEqual(own(doubtful(b"\x1b[47" + bytes([letter]))), ["++", NONE, NONE])

    def test_other_bytes_while_the_screen_is_not_sure(self):
        for sent in (b"\x1b[H", b"\x1b[m", b"\x1b[46h", b"\x1b[47;h", b"\x1b[Q", b"\x1b \r", b"\x1b\x00", b"\x1b[1;2;3H"):
            session = session_after(size(4, 1), send(0, 0, b""), beat(0), send(1, 1, b"\x1b[2J\x1b[47h\x1b[2J"),
                                    send(0, 1, sent))
            self.assertEqual([cells(session), cells(session, 1)], [[NONE], [NONE]])
            self.assertEqual(own(session), ["+-", NONE, NONE])

    def test_the_screen_written_to_alone(self):
        session = doubtful(b"\x1b[47h\x1b[H\x1b[2J")
        self.assertEqual([cells(session), cells(session, 1)], [[NONE] * 3, [ALL] * 3])
        self.assertEqual(own(session), ["++", NONE, "+---"])


class OwnState(unittest.TestCase):
    def check(self, sent, told):
        self.assertEqual(own(doubtful(b"\x1b[47l" + sent)), ["++", told, NONE])

    def test_going_to_a_place(self):
        self.check(b"\x1b[H", "+---")
        self.check(b"\x1b[1;2H", "+---")
        self.check(b"\x1b[1;2;3H", NONE)

    def test_region(self):
        self.check(b"\x1b[r", "+--+")
        self.check(b"\x1b[2;3r", "+--+")
        self.check(b"\x1b[3;2r", NONE)
        self.check(b"\x1b[1;4r", NONE)

    def test_colour(self):
        self.check(b"\x1b[m", "--+-")
        self.check(b"\x1b[37m", "--+-")
        self.check(b"\x1b[38m", NONE)
        self.check(b"\x1b[31;m", NONE)

    def test_kept_place(self):
        self.check(b"\x1b[s", NONE)
        self.check(b"\x1b[H\x1b[s", "++--")
        self.check(b"\x1b[H\x1b[u", NONE)
        self.check(b"\x1b[H\x1b[s\x1b[3;3H\x1b[u", "++--")

    def test_steps_leave_it(self):
        for sent in (b"\r", b"\x08", b"\t", b"\x1b[A", b"\x1b[B", b"\x1b[C", b"\x1b[D"):
            self.check(sent, NONE)
            self.check(b"\x1b[H" + sent, "+---")

    def test_kept_place_becomes_unsure_again(self):
        session = doubtful(b"\x1b[47l\x1b[H\x1b[s\nx\x1b[s")
        self.assertEqual(own(session), ["++", NONE, NONE])


class Signs(unittest.TestCase):
    def test_place_not_sure(self):
        session = doubtful(b"\x1b[47l\x1b[2Ja")
        self.assertEqual(cells(session), [NONE] * 3)

    def test_colour_sure_or_not(self):
        self.assertEqual(cells(doubtful(b"\x1b[47l\x1b[2;2H\x1b[2J\x1b[ma")), [ALL] * 3)
        self.assertEqual(cells(doubtful(b"\x1b[47l\x1b[2;2H\x1b[2Ja")), [ALL, "+-++", ALL])
        self.assertEqual(cells(doubtful(b"\x1b[47l\x1b[2;2H\x1b[2J\xc0")), [ALL, "+--+", ALL])

    def test_neighbours_of_what_was_sure_stay(self):
        self.assertEqual(cells(one_unsure(b"\x1b[m\x1b[1;2Ha")), ["++-+++"])
        self.assertEqual(cells(one_unsure(b"\x1b[m\x1b[1;4Ha")), ["++-+++"])

    def test_neighbours_of_what_was_not_sure_go(self):
        self.assertEqual(cells(one_unsure(b"\x1b[m\x1b[1;3Ha")), ["+-+-++"])
        self.assertEqual(cells(one_unsure(b"\x1b[m\x1b[1;3H\xc0")), ["+-++++"])
        self.assertEqual(cells(one_unsure(b"\x1b[m\x1b[1;2H\xc0")), ["+++-++"])

    def test_at_the_rows_ends(self):
        self.assertEqual(cells(one_unsure(b"\x1b[m\x1b[Ha", unsure=b"\x1b[H")), ["+-++++"])
        self.assertEqual(cells(one_unsure(b"\x1b[m\x1b[1;6Ha", unsure=b"\x1b[1;6H")), ["++++-+"])

    def test_wrapped_with_the_region_sure(self):
        session = one_unsure(b"\x1b[m\x1b[2;5Hbcd", height=2)
        self.assertEqual(cells(session), ["++++++", "++++++"])
        session = one_unsure(b"\x1b[m\x1b[2;5Hbcd", height=2, unsure=b"\x1b[2;3H")
        self.assertEqual(cells(session), ["++-+++", "++++++"])
        session = one_unsure(b"\x1b[m\x1b[1;5Hbcd", height=2, unsure=b"\x1b[2;1H")
        self.assertEqual(cells(session), ["++++++", "+-++++"])

    def test_wide_in_the_last_column_is_wrapped(self):
        session = one_unsure(b"\x1b[m\x1b[1;6H\xc0", height=2, unsure=b"\x1b[1;6H")
        self.assertEqual(cells(session), ["+++++-", "++++++"])

    def test_wrapped_with_the_region_not_sure(self):
        session = doubtful(b"\x1b[47l\x1b[H\x1b[2J\x1b[mabcde")
        self.assertEqual(cells(session), [NONE] * 3)
        self.assertEqual(own(session), ["++", "--+-", NONE])


class Down(unittest.TestCase):
    def test_place_or_region_not_sure(self):
        session = doubtful(b"\x1b[47l\x1b[2J\n")
        self.assertEqual(cells(session), [NONE] * 3)
        session = doubtful(b"\x1b[47l\x1b[H\x1b[2J\n")
        self.assertEqual(cells(session), [NONE] * 3)
        self.assertEqual(own(session), ["++", NONE, NONE])
        # The region is sure, the place is not: the unsure kept place was gone to.
        session = doubtful(b"\x1b[47l\x1b[r\x1b[2J\x1b[u\n")
        self.assertEqual(cells(session), [NONE] * 3)
        self.assertEqual(own(session), ["++", "---+", NONE])

    def test_moves_with_the_rows(self):
        session = doubtful(b"\x1b[47l\x1b[2;3r\x1b[2J\x1b[3;2Hx\x1b[3H\n")
        self.assertEqual(cells(session), [ALL, "+-++", ALL])
        session = doubtful(b"\x1b[47l\x1b[2;3r\x1b[2J\x1b[1;2Hx\x1b[3H\n")
        self.assertEqual(cells(session), ["+-++", ALL, ALL])

    def test_no_row_taken_out(self):
        session = doubtful(b"\x1b[47l\x1b[r\x1b[2K\n")
        self.assertEqual(cells(session), [ALL, NONE, NONE])


class Clearing(unittest.TestCase):
    def test_in_the_row_with_the_place_not_sure(self):
        for how in (b"", b"0", b"1", b"2"):
            self.assertEqual(cells(doubtful(b"\x1b[47l\x1b[2J" + ESC + how + b"K")), [NONE] * 3)
        self.assertEqual(cells(doubtful(b"\x1b[47l\x1b[2J\x1b[3K")), [ALL] * 3)

    def test_in_the_row(self):
        told = b"\x1b[47l\x1b[2;2H"
        self.assertEqual(cells(doubtful(told + b"\x1b[K")), [NONE, "-+++", NONE])
        self.assertEqual(cells(doubtful(told + b"\x1b[1K")), [NONE, "++--", NONE])
        self.assertEqual(cells(doubtful(told + b"\x1b[2K")), [NONE, ALL, NONE])

    def test_the_cell_beside_the_cursors(self):
        self.assertEqual(cells(one_unsure(b"\x1b[1;3H\x1b[K")), ["+-++++"])
        self.assertEqual(cells(one_unsure(b"\x1b[1;3H\x1b[1K")), ["+++-++"])
        self.assertEqual(cells(one_unsure(b"\x1b[1;3H\x1b[2K")), ["++++++"])
        self.assertEqual(cells(one_unsure(b"\x1b[1;2H\x1b[K")), ["++++++"])
        self.assertEqual(cells(one_unsure(b"\x1b[1;4H\x1b[1K")), ["++++++"])
        self.assertEqual(cells(one_unsure(b"\x1b[1;4H\x1b[K")), ["++-+++"])
        self.assertEqual(cells(one_unsure(b"\x1b[1;2H\x1b[K", unsure=b"\x1b[1;2H")), ["-+++++"])
        self.assertEqual(cells(one_unsure(b"\x1b[1;5H\x1b[1K", unsure=b"\x1b[1;5H")), ["+++++-"])

    def test_in_the_screen(self):
        told = b"\x1b[47l\x1b[2;2H"
        self.assertEqual(cells(doubtful(told + b"\x1b[J")), [NONE, "-+++", ALL])
        self.assertEqual(cells(doubtful(told + b"\x1b[1J")), [ALL, "++--", NONE])
        self.assertEqual(cells(doubtful(told + b"\x1b[2J")), [ALL] * 3)
        self.assertEqual(cells(doubtful(told + b"\x1b[3J")), [NONE] * 3)

    def test_in_the_screen_with_the_place_not_sure(self):
        self.assertEqual(cells(doubtful(b"\x1b[47l\x1b[2J")), [ALL] * 3)
        for how in (b"", b"0", b"1"):
            self.assertEqual(cells(doubtful(b"\x1b[47l\x1b[2J" + ESC + how + b"J")), [NONE] * 3)
        self.assertEqual(cells(doubtful(b"\x1b[47l\x1b[2J\x1b[3J")), [ALL] * 3)


class RowsMoved(unittest.TestCase):
    def test_place_or_region_not_sure(self):
        for letter in b"LM":
            last = ESC + bytes([letter])
            self.assertEqual(cells(doubtful(b"\x1b[47l\x1b[2J" + last)), [NONE] * 3)
            self.assertEqual(cells(doubtful(b"\x1b[47l\x1b[H\x1b[2J" + last)), [NONE] * 3)
            self.assertEqual(cells(doubtful(b"\x1b[47l\x1b[r\x1b[2J\x1b[u" + last)), [NONE] * 3)
            # The place is not lost by it.
            self.assertEqual(own(doubtful(b"\x1b[47l\x1b[H" + last))[1], "+---")

    def test_put_in(self):
        told = b"\x1b[47l\x1b[r\x1b[2J\x1b[2;2Hx"
        self.assertEqual(cells(doubtful(told + b"\x1b[1H\x1b[L")), [ALL, ALL, "+-++"])
        self.assertEqual(cells(doubtful(told + b"\x1b[1H\x1b[9L")), [ALL] * 3)
        self.assertEqual(cells(doubtful(told + b"\x1b[3H\x1b[L")), [ALL, "+-++", ALL])
        self.assertEqual(cells(doubtful(b"\x1b[47l\x1b[r\x1b[2H\x1b[L")), [NONE, ALL, NONE])

    def test_taken_out(self):
        told = b"\x1b[47l\x1b[r\x1b[2J\x1b[2;2Hx"
        self.assertEqual(cells(doubtful(told + b"\x1b[1H\x1b[M")), ["+-++", ALL, ALL])
        self.assertEqual(cells(doubtful(told + b"\x1b[2H\x1b[9M")), [ALL] * 3)
        self.assertEqual(cells(doubtful(told + b"\x1b[3H\x1b[M")), [ALL, "+-++", ALL])
        self.assertEqual(cells(doubtful(b"\x1b[47l\x1b[r\x1b[2H\x1b[M")), [NONE, NONE, ALL])

    def test_outside_the_region(self):
        for letter in b"LM":
            session = doubtful(b"\x1b[47l\x1b[2;3r\x1b[2J\x1b[2;2Hx\x1b[H" + ESC + bytes([letter]))
            self.assertEqual(cells(session), [ALL, "+-++", ALL])


class CellsMoved(unittest.TestCase):
    def test_place_not_sure(self):
        for letter in b"@P":
            self.assertEqual(cells(doubtful(b"\x1b[47l\x1b[2J" + ESC + bytes([letter]))), [NONE] * 3)

    def test_row_all_sure_or_not_at_all(self):
        for letter in b"@P":
            last = ESC + bytes([letter])
            self.assertEqual(cells(one_unsure(b"\x1b[1;6H" + last, height=2)), ["------", "++++++"])
            self.assertEqual(cells(one_unsure(b"\x1b[2;1H" + last, height=2)), ["++-+++", "++++++"])


def random_bytes(source):
    pieces = [b"a", b"b", b"\xc0", b"\xc1", b"\n", b"\r", b"\x08", b"\t", b"\x1b", b"\x1b[", b"7", b"\x00"]
    controls = [b"1;2H", b"2;1H", b"H", b"r", b"1;2r", b"2;3r", b"J", b"1J", b"2J", b"K", b"1K", b"2K", b"L", b"2M",
                b"@", b"2P", b"m", b"31m", b"s", b"u", b"47h", b"47l", b"A", b"B", b"C", b"2D"]
    pieces = pieces + [ESC + control for control in controls]
    return b"".join(source.choice(pieces) for number in range(source.randint(0, 8)))


def wrong_and_sure(session):
    """How many cells are not the same on both sides, and how many of these are told sure."""
    wrong = 0
    told_sure = 0
    for screen in (0, 1):
        for number in range(session.height):
            pairs = zip(*[side.screens[screen].rows[number].cells for side in session.sides])
            for column, (left, right) in enumerate(pairs):
                wrong += left != right
                told_sure += left != right and session.sureness.screens[screen].rows[number][column]
    return wrong, told_sure


class NothingWrongIsSure(unittest.TestCase):
    def test_when_all_losses_are_known(self):
        source = random.Random(59)
        wrong = 0
        for number in range(400):
            calls = [size(source.randint(2, 5), source.randint(1, 3))]
            for piece in range(12):
                calls.append(send(source.randint(0, 1), int(source.random() < 0.8), random_bytes(source)))
            session = session_after(*calls, beat(0), beat(1), send(0, 1, random_bytes(source)),
                                    send(1, 1, random_bytes(source)))
            told = wrong_and_sure(session)
            wrong += told[0]
            self.assertEqual(told[1], 0, calls)
        self.assertGreater(wrong, 100)


if __name__ == "__main__":
    unittest.main()
