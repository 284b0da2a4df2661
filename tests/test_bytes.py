"""What bytes do that are no controls."""

import unittest

from tests.helper import ESC, coloured, written

NARROW = range(32, 127)
WIDE = range(192, 224)


class EveryByte(unittest.TestCase):
    def test_narrow(self):
        for byte in NARROW:
            self.assertEqual(written(bytes([byte, 33])), [bytes([byte]) + b"!    ", b"      "])

    def test_wide(self):
        for byte in WIDE:
            self.assertEqual(written(bytes([byte, 33])), [bytes([byte]) + b"!   ", b"      "])

    def test_others_do_nothing(self):
        known = set(NARROW) | set(WIDE) | {8, 9, 10, 13, 27}
        for byte in sorted(set(range(256)) - known):
            self.assertEqual(written(b"ab" + bytes([byte]) + b"c"), [b"abc   ", b"      "])
            # Behind a full row the new row stays due.
            self.assertEqual(written(b"abcdef" + bytes([byte]) + b"g"), [b"abcdef", b"g     "])


class Narrow(unittest.TestCase):
    def test_full_row_is_not_left_yet(self):
        self.assertEqual(written(b"abcdef"), [b"abcdef", b"      "])
        self.assertEqual(written(b"abcdef\r!"), [b"!bcdef", b"      "])

    def test_next_sign_wraps(self):
        self.assertEqual(written(b"abcdefg"), [b"abcdef", b"g     "])

    def test_last_row_moves_up(self):
        self.assertEqual(written(b"abcdefghijklm"), [b"ghijkl", b"m     "])

    def test_one_row_alone(self):
        self.assertEqual(written(b"abc", 2, 1), [b"c "])

    def test_colour_is_the_pens(self):
        self.assertEqual(coloured(b"a\x1b[35mbc\x1b[md", 4, 1), [[0, 5, 5, 0]])


class Wide(unittest.TestCase):
    def test_fills_the_last_two_columns(self):
        self.assertEqual(written(b"abcd\xc0"), [b"abcd\xc0", b"      "])
        self.assertEqual(written(b"abcd\xc0e"), [b"abcd\xc0", b"e     "])
        # The cursor stands in the last column: a step back is one column.
        self.assertEqual(written(b"abcd\xc0\x08e"), [b"abcde ", b"      "])

    def test_wraps_from_the_last_column(self):
        self.assertEqual(written(b"abcde\xc0f"), [b"abcde ", b"\xc0f   "])

    def test_last_column_keeps_its_cell_when_it_is_wrapped(self):
        self.assertEqual(written(b"abcdef\x1b[1;6H\xc0"), [b"abcdef", b"\xc0    "])

    def test_wraps_when_a_new_row_is_due(self):
        self.assertEqual(written(b"abcdef\xc0"), [b"abcdef", b"\xc0    "])

    def test_two_columns(self):
        self.assertEqual(written(b"\xc0\xc1\xc2", 2, 2), [b"\xc1", b"\xc2"])
        self.assertEqual(written(b"a\xc0b", 2, 2), [b"\xc0", b"b "])

    def test_both_halves_have_the_colour(self):
        self.assertEqual(coloured(b"\x1b[36m\xc0\x1b[ma", 4, 1), [[6, 6, 0, 0]])


class Halves(unittest.TestCase):
    def test_left_half_covered(self):
        self.assertEqual(written(b"\x1b[31m\xc0\xc1\r\x1b[ma"), [b"a \xc1  ", b"      "])
        self.assertEqual(coloured(b"\x1b[31m\xc0\xc1\ra", 6, 1), [[1, 0, 1, 1, 0, 0]])

    def test_right_half_covered(self):
        self.assertEqual(written(b"\xc0\xc1\r\x1b[Ca"), [b" a\xc1  ", b"      "])

    def test_wide_covers_halves_of_two(self):
        self.assertEqual(written(b"\xc0\xc1\r\x1b[C\xc2"), [b" \xc2   ", b"      "])

    def test_wide_covers_a_half_and_a_narrow_one(self):
        self.assertEqual(written(b"a\xc0b\r\xc1"), [b"\xc1 b  ", b"      "])

    def test_halves_that_meet_and_are_alike_stay(self):
        self.assertEqual(written(b"\xc0\xc0ab\r\x1b[C\x1b[2P"), [b"\xc0ab  ", b"      "])

    def test_halves_that_meet_and_are_not_alike_go(self):
        self.assertEqual(written(b"\xc0\xc1ab\r\x1b[C\x1b[2P"), [b"  ab  ", b"      "])
        # The same sign in another colour is not alike either.
        self.assertEqual(written(b"\xc0\x1b[31m\xc0ab\r\x1b[C\x1b[2P"), [b"  ab  ", b"      "])
        self.assertEqual(coloured(b"\x1b[32m\xc0\x1b[31m\xc0a\r\x1b[C\x1b[2P", 6, 1), [[0, 0, 1, 0, 0, 0]])

    def test_half_moved_out_of_the_row(self):
        self.assertEqual(written(b"abcd\xc0\r\x1b[@"), [b" abcd ", b"      "])


class Back(unittest.TestCase):
    def test_one_column_less(self):
        self.assertEqual(written(b"ab\x08c"), [b"ac    ", b"      "])

    def test_not_below_column_0(self):
        self.assertEqual(written(b"a\x08\x08\x08b"), [b"b     ", b"      "])
        self.assertEqual(written(b"a\r\n\x08b"), [b"a     ", b"b     "])

    def test_nothing_is_due(self):
        self.assertEqual(written(b"abcdef\x08g"), [b"abcdgf", b"      "])


class Tab(unittest.TestCase):
    def test_next_multiple_of_four(self):
        self.assertEqual(written(b"\ta\x1b[1;4H\tb\tc", 10, 1), [b"    b   c "])
        self.assertEqual(written(b"\t\ta", 10, 1), [b"        a "])

    def test_last_column_at_most(self):
        self.assertEqual(written(b"\t\ta"), [b"     a", b"      "])
        self.assertEqual(written(b"\ta", 2, 1), [b" a"])
        self.assertEqual(written(b"\t\t\ta", 9, 1), [b"        a"])

    def test_nothing_is_due(self):
        self.assertEqual(written(b"abcdef\tg"), [b"abcdeg", b"      "])


class NewRow(unittest.TestCase):
    def test_column_stays(self):
        self.assertEqual(written(b"ab\nc"), [b"ab    ", b"  c   "])

    def test_rows_move_up_at_the_bottom(self):
        self.assertEqual(written(b"ab\ncd\ne"), [b"  cd  ", b"    e "])

    def test_nothing_is_due(self):
        self.assertEqual(written(b"abcdef\ng"), [b"abcdef", b"     g"])

    def test_region_alone_moves(self):
        drawn = b"1\r\n2\r\n3\r\n4" + ESC + b"2;3r"
        self.assertEqual(written(drawn + ESC + b"3H\nx", 2, 4), [b"1 ", b"3 ", b"x ", b"4 "])

    def test_above_and_below_the_region_nothing_moves(self):
        drawn = b"1\r\n2\r\n3\r\n4" + ESC + b"2;3r"
        self.assertEqual(written(drawn + b"\nx", 2, 4), [b"1 ", b"x ", b"3 ", b"4 "])
        self.assertEqual(written(drawn + ESC + b"4H\n\nx", 2, 4), [b"1 ", b"2 ", b"3 ", b"x "])

    def test_below_the_region_the_cursor_moves(self):
        drawn = b"1\r\n2\r\n3\r\n4" + ESC + b"1;2r"
        self.assertEqual(written(drawn + ESC + b"3H\nx", 2, 4), [b"1 ", b"2 ", b"3 ", b"x "])

    def test_one_row_alone(self):
        self.assertEqual(written(b"a\nb", 4, 1), [b" b  "])


class ToStart(unittest.TestCase):
    def test_column_0(self):
        self.assertEqual(written(b"ab\rc"), [b"cb    ", b"      "])

    def test_nothing_is_due(self):
        self.assertEqual(written(b"abcdef\rg"), [b"gbcdef", b"      "])


class WrapInRegion(unittest.TestCase):
    def test_wrapping_below_the_region_stays_in_the_last_row(self):
        self.assertEqual(written(b"12\r\n34\r\n56" + ESC + b"1;2r" + ESC + b"3Habc", 2, 3), [b"12", b"34", b"cb"])

    def test_wrapping_at_the_regions_bottom(self):
        self.assertEqual(written(b"12\r\n34\r\n56" + ESC + b"1;2r" + ESC + b"2Habc", 2, 3), [b"ab", b"c ", b"56"])


if __name__ == "__main__":
    unittest.main()
