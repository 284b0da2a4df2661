"""Which rows go on: no call tells it, so the session itself is looked at."""

import unittest

from tests.helper import picture, send, session_after, size

# Three rows of two columns: the first and the second go on.
THREE = b"abcdef"


def going_on(*sent, height=3, screen=0):
    session = session_after(size(2, height), *[send(0, 1, piece) for piece in sent])
    told = [[row.goes_on for row in side.screens[screen].rows] for side in session.sides]
    assert told[0] == told[1]
    return "".join("+" if goes_on else "-" for goes_on in told[0])


class GoingOn(unittest.TestCase):
    def test_no_row_at_first(self):
        self.assertEqual(going_on(), "---")

    def test_full_row_does_not_go_on_yet(self):
        self.assertEqual(going_on(b"ab"), "---")

    def test_wrapping(self):
        self.assertEqual(going_on(b"abc"), "+--")
        self.assertEqual(going_on(THREE), "++-")
        self.assertEqual(going_on(b"a\xc0"), "+--")

    def test_wrapping_moves_up_with_the_rows(self):
        self.assertEqual(going_on(THREE + b"g"), "++-")
        self.assertEqual(going_on(THREE + b"\r\n"), "+--")

    def test_wrapping_below_the_region(self):
        self.assertEqual(going_on(b"\x1b[1;2r\x1b[3Habc"), "--+")

    def test_new_row_ends_the_cursors_row(self):
        self.assertEqual(going_on(THREE + b"\x1b[1H\n"), "-+-")

    def test_the_row_above_the_region_ends_when_the_region_moves(self):
        self.assertEqual(going_on(THREE + b"\x1b[2;3r\x1b[3H\n"), "---")
        self.assertEqual(going_on(b"abcdefgh\x1b[3;4r\x1b[4H\n", height=4), "+---")

    def test_wrapping_at_the_regions_bottom(self):
        self.assertEqual(going_on(THREE + b"\x1b[2;3r\x1b[3Hxyz"), "-+-")

    def test_clear_in_row(self):
        self.assertEqual(going_on(THREE + b"\x1b[1;2H\x1b[K"), "-+-")
        self.assertEqual(going_on(THREE + b"\x1b[1;1H\x1b[1K"), "++-")
        self.assertEqual(going_on(THREE + b"\x1b[1;2H\x1b[1K"), "-+-")
        self.assertEqual(going_on(THREE + b"\x1b[1;1H\x1b[2K"), "-+-")
        self.assertEqual(going_on(THREE + b"\x1b[1;1H\x1b[3K"), "++-")

    def test_clear_in_screen(self):
        self.assertEqual(going_on(THREE + b"\x1b[1;1H\x1b[J"), "---")
        self.assertEqual(going_on(THREE + b"\x1b[2;1H\x1b[J"), "+--")
        self.assertEqual(going_on(THREE + b"\x1b[2;1H\x1b[1J"), "-+-")
        self.assertEqual(going_on(THREE + b"\x1b[2;2H\x1b[1J"), "---")
        self.assertEqual(going_on(THREE + b"\x1b[2J"), "---")
        self.assertEqual(going_on(THREE + b"\x1b[3J"), "++-")

    def test_rows_put_in(self):
        self.assertEqual(going_on(THREE + b"\x1b[2H\x1b[L"), "---")
        self.assertEqual(going_on(b"abcdefgh\x1b[2H\x1b[L", height=4), "--+-")
        self.assertEqual(going_on(b"abcdefgh\x1b[2H\x1b[0L", height=4), "-++-")
        self.assertEqual(going_on(b"abcdefgh\x1b[1;2r\x1b[1H\x1b[L", height=4), "--+-")
        self.assertEqual(going_on(b"abcdefgh\x1b[1;2r\x1b[3H\x1b[L", height=4), "+++-")

    def test_rows_taken_out(self):
        self.assertEqual(going_on(THREE + b"\x1b[2H\x1b[M"), "---")
        self.assertEqual(going_on(b"abcdefgh\x1b[2H\x1b[M", height=4), "-+--")
        self.assertEqual(going_on(b"abcdefgh\x1b[1;3r\x1b[1H\x1b[M", height=4), "+---")
        self.assertEqual(going_on(b"abcdefgh\x1b[1;3r\x1b[1H\x1b[0M", height=4), "++--")
        self.assertEqual(going_on(b"abcdefgh\x1b[1;2r\x1b[3H\x1b[M", height=4), "+++-")

    def test_cells_put_in_and_taken_out(self):
        self.assertEqual(going_on(THREE + b"\x1b[1H\x1b[@"), "++-")
        self.assertEqual(going_on(THREE + b"\x1b[1H\x1b[P"), "-+-")
        self.assertEqual(going_on(THREE + b"\x1b[1H\x1b[0P"), "-+-")

    def test_screens_apart(self):
        self.assertEqual(going_on(THREE + b"\x1b[47habc"), "++-")
        self.assertEqual(going_on(THREE + b"\x1b[47habc", screen=1), "+--")

    def test_a_picture_brings_it(self):
        session = session_after(size(2, 3), send(0, 0, THREE), picture(1, 1))
        self.assertEqual([row.goes_on for row in session.sides[1].screens[0].rows], [True, True, False])


if __name__ == "__main__":
    unittest.main()
