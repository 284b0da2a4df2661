"""Pieces that come and that are lost, on both sides and both screens."""

import unittest

from tests.helper import ask, beat, count, picture, row, send, signs


def four_rows(*calls):
    """The first row's signs: main and other on the sending side, then on the receiving one."""
    given = ask(*calls, row(0, 0, 0), row(0, 1, 0), row(1, 0, 0), row(1, 1, 0))
    return [signs(answer) for answer in given[-4:]]


class TwoSenders(unittest.TestCase):
    def test_each_has_its_own_cursor_on_the_same_rows(self):
        self.assertEqual(four_rows(send(0, 1, b"abc"), send(1, 1, b"x"), send(0, 1, b"d")),
                         [b"xbcd  ", b"      ", b"xbcd  ", b"      "])

    def test_each_has_its_own_colour(self):
        given = ask(send(0, 1, b"\x1b[31ma"), send(1, 1, b"\x1b[2Cb"), send(0, 1, b"c"), row(0, 0, 0))
        self.assertEqual(given[3], [6] + list(b"acb   ") + [1, 1, 0, 0, 0, 0])

    def test_new_row_is_due_for_one_alone(self):
        given = ask(send(0, 1, b"abcdef"), send(1, 1, b"\x1b[1;6Hx"), send(0, 1, b"g"), row(0, 0, 0), row(0, 0, 1))
        self.assertEqual([signs(answer) for answer in given[3:]], [b"abcdex", b"g     "])

    def test_rows_move_under_the_others_cursor(self):
        given = ask(send(0, 1, b"ab"), send(1, 1, b"x\ny\n"), send(0, 1, b"c"), row(1, 0, 0), row(1, 0, 1))
        self.assertEqual([signs(answer) for answer in given[3:]], [b" yc   ", b"      "])

    def test_one_parts_the_others_wide_sign(self):
        self.assertEqual(four_rows(send(0, 1, b"\xc0a"), send(1, 1, b"x"))[2], b"x a   ")


class LostBytes(unittest.TestCase):
    def test_nothing_happens_at_the_receiver(self):
        self.assertEqual(four_rows(send(0, 0, b"ab\x1b[47hc")), [b"ab    ", b"c     ", b"      ", b"      "])

    def test_the_senders_state_is_lost_too(self):
        # The cursor, the colour and the screen shown are not told again.
        self.assertEqual(four_rows(send(0, 1, b"a"), send(0, 0, b"b\x1b[47h"), send(0, 1, b"c")),
                         [b"ab    ", b"c     ", b"ac    ", b"      "])

    def test_half_a_control_lost(self):
        self.assertEqual(four_rows(send(0, 1, b"a\x1b["), send(0, 0, b"2"), send(0, 1, b"Kb")),
                         [b" b    ", b"      ", b"ab    ", b"      "])
        self.assertEqual(four_rows(send(0, 1, b"a"), send(0, 0, b"\x1b["), send(0, 1, b"2Kb")),
                         [b" b    ", b"      ", b"a2Kb  ", b"      "])

    def test_the_other_sender_goes_on(self):
        self.assertEqual(four_rows(send(0, 0, b"abc"), send(1, 1, b"x")), [b"xbc   ", b"      ", b"x     ", b"      "])


class Pictures(unittest.TestCase):
    def test_does_nothing_on_the_sending_side(self):
        self.assertEqual(four_rows(send(0, 1, b"ab"), picture(0, 1), send(0, 1, b"c")),
                         [b"abc   ", b"      ", b"abc   ", b"      "])

    def test_brings_the_rows_of_both_screens(self):
        self.assertEqual(four_rows(send(0, 0, b"ab\x1b[47h\x1b[31mc\xc0"), picture(1, 1)),
                         [b"ab    ", b"c\xc0   ", b"ab    ", b"c\xc0   "])
        given = ask(send(0, 0, b"\x1b[31ma"), picture(1, 1), row(1, 0, 0), row(1, 0, 1))
        self.assertEqual(given[2:], [[6, 97, 32, 32, 32, 32, 32, 1, 0, 0, 0, 0, 0], [6] + [32] * 6 + [0] * 6])

    def test_brings_its_senders_state(self):
        lost = b"\x1b[47h\x1b[32m\x1b[1;3H\x1b[s\x1b[1;5H\x1b["
        self.assertEqual(four_rows(send(0, 0, lost), picture(0, 1), send(0, 1, b"ux")),
                         [b"      ", b"  x   ", b"      ", b"  x   "])
        given = ask(send(0, 0, lost), picture(0, 1), send(0, 1, b"ux"), row(1, 1, 0))
        self.assertEqual(given[3], [6] + list(b"  x   ") + [0, 0, 2, 0, 0, 0])

    def test_brings_cursor_region_and_kept_place_whole(self):
        lost = b"1\r\n2\r\n3\r\n4\x1b[2;3r\x1b[4;3H\x1b[s\x1b[3;2H"
        given = ask([0, 3, 4], send(0, 0, lost), picture(0, 1), send(0, 1, b"x\n\x1b[uy"),
                    *[row(1, 0, number) for number in range(4)])
        self.assertEqual([signs(answer) for answer in given[4:]], [b"1  ", b"3x ", b"   ", b"4 y"])

    def test_brings_what_is_due_and_the_region(self):
        given = ask(send(0, 0, b"abcdef"), picture(0, 1), send(0, 1, b"g"), row(1, 0, 0), row(1, 0, 1))
        self.assertEqual([signs(answer) for answer in given[3:]], [b"abcdef", b"g     "])
        given = ask([0, 2, 3], send(0, 0, b"1\r\n2\r\n3\x1b[1;2r"), picture(0, 1), send(0, 1, b"\n\n"),
                    row(1, 0, 0), row(1, 0, 1), row(1, 0, 2))
        self.assertEqual([signs(answer) for answer in given[4:]], [b"2 ", b"  ", b"3 "])

    def test_leaves_the_other_senders_state(self):
        # The sender 1 lost its step to the right; a picture of the sender 0 does not bring it.
        self.assertEqual(four_rows(send(1, 0, b"\x1b[2C"), picture(0, 1), send(1, 1, b"x")),
                         [b"  x   ", b"      ", b"x     ", b"      "])

    def test_is_a_copy(self):
        self.assertEqual(four_rows(send(0, 0, b"ab"), picture(0, 1), send(0, 0, b"c\x1b[47h"), send(1, 0, b"x")),
                         [b"xbc   ", b"      ", b"ab    ", b"      "])
        self.assertEqual(four_rows(send(0, 0, b"ab"), picture(0, 1), send(0, 0, b"c"), send(0, 1, b"d"))[2:],
                         [b"abd   ", b"      "])

    def test_lost_it_brings_nothing(self):
        self.assertEqual(four_rows(send(0, 0, b"ab"), picture(0, 0)), [b"ab    ", b"      ", b"      ", b"      "])


class Known(unittest.TestCase):
    def test_learned_from_the_piece_that_comes(self):
        self.assertEqual(ask(send(0, 0, b""), send(0, 0, b""), count(0), send(0, 1, b""), count(1)),
                         [[1, 0, 0], [2, 0, 0], [2, 0, 0], [3, 3, 2], [0, 0, 0]])

    def test_learned_from_a_picture(self):
        self.assertEqual(ask(send(0, 0, b""), picture(0, 1), picture(0, 0), send(0, 1, b"")),
                         [[1, 0, 0], [2, 2, 1], [3, 2, 1], [4, 4, 2]])

    def test_learned_from_a_beat(self):
        self.assertEqual(ask(send(1, 1, b""), send(1, 0, b""), beat(1), send(1, 0, b""), send(1, 1, b"")),
                         [[1, 1, 0], [2, 1, 0], [2, 2, 1], [3, 2, 1], [4, 4, 2]])

    def test_senders_are_counted_apart(self):
        self.assertEqual(ask(send(0, 0, b""), send(1, 1, b""), count(0), send(1, 0, b""), beat(0), count(1)),
                         [[1, 0, 0], [1, 1, 0], [1, 0, 0], [2, 1, 0], [1, 1, 1], [2, 1, 0]])


if __name__ == "__main__":
    unittest.main()
