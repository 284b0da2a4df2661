"""Controls: how they are held and read, and what each letter does."""

import unittest

from tests.helper import ESC, ask, coloured, row, rows_after, send, signs, size, written

DRAWN = b"1\r\n2\r\n3\r\n4"
FULL = b"abcdef\r\nghijkl"


def in_four(sent):
    """The first signs of four rows drawn as 1 2 3 4."""
    return b"".join(line[:1] for line in written(DRAWN + sent, 2, 4))


def place(sent, width=6, height=4):
    """Where the cursor is: the row and the column in which the next sign stands."""
    lines = written(sent + b"X", width, height)
    found = [(number, line.index(b"X")) for number, line in enumerate(lines) if b"X" in line]
    assert len(found) == 1
    return found[0]


class Held(unittest.TestCase):
    def test_every_letter_ends_a_control(self):
        drawn = written(b"ab")
        for letter in sorted(set(range(64, 127)) - set(b"ABCDHJKLM@Pmrsuhl")):
            self.assertEqual(written(b"ab" + ESC + b"2" + bytes([letter])), drawn)
            self.assertEqual(written(b"ab" + ESC + bytes([letter]) + b"c")[0], b"abc   ")

    def test_bracket_is_a_letter_behind_the_first_one(self):
        self.assertEqual(written(b"a" + ESC + b"[2Kb")[0], b"a2Kb  ")

    def test_dropped_behind_27_alone(self):
        for byte in b"2;K~ ":
            self.assertEqual(written(b"a\x1b" + bytes([byte]) + b"c")[0], b"a" + bytes([byte]) + b"c   ")
        self.assertEqual(written(b"ab\x1b\rc")[0], b"cb    ")

    def test_dropped_by_another_byte(self):
        self.assertEqual(written(b"a" + ESC + b"2 K")[0], b"a K   ")
        self.assertEqual(written(b"ab" + ESC + b"2\rK")[0], b"Kb    ")
        self.assertEqual(written(b"a" + ESC + b"2:K")[0], b"a:K   ")
        self.assertEqual(written(b"a" + ESC + b"2/K")[0], b"a/K   ")
        self.assertEqual(written(b"a" + ESC + b"2<K")[0], b"a<K   ")
        self.assertEqual(written(b"a" + ESC + b"2?K")[0], b"a?K   ")
        self.assertEqual(written(b"a" + ESC + b"2\xc0K")[0], b"a\xc0K  ")
        self.assertEqual(written(b"a" + ESC + b"2\x00K")[0], b"aK    ")
        self.assertEqual(written(b"a" + ESC + b"2\x7fK")[0], b"aK    ")
        self.assertEqual(written(b"ab" + ESC + b"2\x1b[D!")[0], b"a!    ")
        self.assertEqual(written(b"ab\x1b\x1b[D!")[0], b"a!    ")

    def test_ten_digits_are_held(self):
        self.assertEqual(written(b"abc" + ESC + b"0000000002Dx")[0], b"axc   ")
        self.assertEqual(written(b"abc" + ESC + b"000000002;Dx")[0], b"abcx  ")

    def test_a_digit_too_many_counts_anew(self):
        self.assertEqual(written(ESC + b"00000000012D", 12, 1), [b"2D          "])
        self.assertEqual(written(ESC + b"0000000001;D", 12, 1), [b";D          "])
        self.assertEqual(written(ESC + b";;;;;;;;;;;D", 12, 1), [b";D          "])

    def test_nothing_is_held_behind_a_letter(self):
        self.assertEqual(written(ESC + b"A2K")[0], b"2K    ")

    def test_cut_by_a_pieces_end(self):
        for cut in range(1, 8):
            whole = b"a" + ESC + b"1;3Hb"
            given = ask(send(0, 1, whole[:cut]), send(0, 1, whole[cut:]), row(1, 0, 0))
            self.assertEqual(signs(given[2]), b"a b   ")

    def test_each_sender_holds_its_own(self):
        given = ask(send(0, 1, b"a" + ESC + b"3"), send(1, 1, b"\x1b"), send(0, 1, b"1mb"), send(1, 1, b"[32"),
                    send(0, 1, b"c"), send(1, 1, b"mx"), row(1, 0, 0))
        self.assertEqual(given[6], [6] + list(b"xbc   ") + [2, 1, 1, 0, 0, 0])


class Numbers(unittest.TestCase):
    def test_left_out_is_one_for_n(self):
        self.assertEqual(place(b"\x1b[C"), (0, 1))

    def test_nought_is_nought_for_n(self):
        self.assertEqual(place(b"ab\x1b[0D"), (0, 2))
        self.assertEqual(place(b"ab\x1b[0A"), (0, 2))

    def test_leading_noughts(self):
        self.assertEqual(place(b"\x1b[003C"), (0, 3))

    def test_greater_than_999_is_999(self):
        self.assertEqual(place(b"\x1b[1000C"), (0, 5))
        self.assertEqual(place(b"\x1b[9999999999B"), (3, 0))
        # Not the last digits: 1047 is no 47, 1002 no 2, 1031 no 31.
        self.assertEqual(written(b"a\x1b[1047hb"), [b"ab    ", b"      "])
        self.assertEqual(written(b"a\x1b[1002Kb"), [b"ab    ", b"      "])
        self.assertEqual(coloured(b"\x1b[1031ma", 2, 1), [[0, 0]])

    def test_more_than_two_numbers_do_nothing(self):
        for sent in (b"1;1;1H", b";;H", b"2;3;r", b"1;1;1D", b";;K", b"47;47;47h"):
            self.assertEqual(written(b"ab" + ESC + sent + b"c"), [b"abc   ", b"      "])

    def test_two_numbers_with_other_letters_do_nothing(self):
        for letter in b"ABCDJKLM@Pmsuhl":
            for numbers in (b"1;1", b"1;", b";1", b";", b"0;0", b"2;2", b"47;47", b"31;31"):
                self.assertEqual(written(b"a\x1b[sb" + ESC + numbers + bytes([letter]) + b"c"), [b"abc   ", b"      "])
                self.assertEqual(coloured(b"ab" + ESC + numbers + bytes([letter]) + b"c")[0], [0] * 6)

    def test_two_numbers_leave_a_row_due(self):
        for letter in b"ABCDJKLM@P":
            self.assertEqual(written(b"abcdef" + ESC + b"0;" + bytes([letter]) + b"g"), [b"abcdef", b"g     "])


class Going(unittest.TestCase):
    def test_up(self):
        self.assertEqual(place(b"\x1b[4;3H\x1b[A"), (2, 2))
        self.assertEqual(place(b"\x1b[4;3H\x1b[2A"), (1, 2))
        self.assertEqual(place(b"\x1b[4;3H\x1b[9A"), (0, 2))

    def test_down(self):
        self.assertEqual(place(b"\x1b[1;3H\x1b[B"), (1, 2))
        self.assertEqual(place(b"\x1b[1;3H\x1b[2B"), (2, 2))
        self.assertEqual(place(b"\x1b[1;3H\x1b[9B"), (3, 2))

    def test_right(self):
        self.assertEqual(place(b"\x1b[2;2H\x1b[C"), (1, 2))
        self.assertEqual(place(b"\x1b[2;2H\x1b[9C"), (1, 5))

    def test_left(self):
        self.assertEqual(place(b"\x1b[2;4H\x1b[D"), (1, 2))
        self.assertEqual(place(b"\x1b[2;4H\x1b[9D"), (1, 0))

    def test_the_region_does_not_stop_it(self):
        self.assertEqual(place(b"\x1b[2;3r\x1b[9B"), (3, 0))
        self.assertEqual(place(b"\x1b[2;3r\x1b[3H\x1b[9A"), (0, 0))

    def test_nothing_is_due(self):
        for letter in b"ABCD":
            self.assertEqual(written(b"abcdef" + ESC + b"0" + bytes([letter]) + b"g"), [b"abcdeg", b"      "])

    def test_to_a_place(self):
        self.assertEqual(place(b"ab\n\x1b[H"), (0, 0))
        self.assertEqual(place(b"ab\n\x1b[;H"), (0, 0))
        self.assertEqual(place(b"\x1b[3H"), (2, 0))
        self.assertEqual(place(b"\x1b[3;H"), (2, 0))
        self.assertEqual(place(b"\n\x1b[;4H"), (0, 3))
        self.assertEqual(place(b"\x1b[2;5H"), (1, 4))
        self.assertEqual(place(b"\x1b[0;0H"), (0, 0))
        self.assertEqual(place(b"\x1b[99;99H"), (3, 5))
        self.assertEqual(written(b"abcdef\x1b[1;6Hg"), [b"abcdeg", b"      "])


class ClearInRow(unittest.TestCase):
    def test_from_the_cursor_on(self):
        self.assertEqual(written(FULL + b"\x1b[1;3H\x1b[K"), [b"ab    ", b"ghijkl"])
        self.assertEqual(written(FULL + b"\x1b[1;3H\x1b[0K"), [b"ab    ", b"ghijkl"])

    def test_up_to_the_cursor(self):
        self.assertEqual(written(FULL + b"\x1b[1;3H\x1b[1K"), [b"   def", b"ghijkl"])

    def test_all(self):
        self.assertEqual(written(FULL + b"\x1b[1;3H\x1b[2K"), [b"      ", b"ghijkl"])

    def test_nothing_else(self):
        self.assertEqual(written(FULL + b"\x1b[1;3H\x1b[3K"), [b"abcdef", b"ghijkl"])

    def test_cursor_stays_and_nothing_is_due(self):
        self.assertEqual(written(b"abcdef\x1b[Kg"), [b"abcdeg", b"      "])
        self.assertEqual(written(b"abcdef\x1b[1Kg"), [b"     g", b"      "])
        self.assertEqual(written(b"abcdef\x1b[3Kg"), [b"abcdef", b"g     "])

    def test_blanks_have_no_colour(self):
        self.assertEqual(coloured(b"\x1b[31mabcd\x1b[1;3H\x1b[K", 4, 1), [[1, 1, 0, 0]])

    def test_parted_wide_signs_go(self):
        self.assertEqual(written(b"a\xc0b\x1b[1;3H\x1b[K"), [b"a     ", b"      "])
        self.assertEqual(written(b"a\xc0b\x1b[1;2H\x1b[1K"), [b"   b  ", b"      "])


class ClearInScreen(unittest.TestCase):
    def test_from_the_cursor_on(self):
        self.assertEqual(written(b"abc\r\ndef\r\nghi\x1b[2;2H\x1b[J", 3, 3), [b"abc", b"d  ", b"   "])

    def test_up_to_the_cursor(self):
        self.assertEqual(written(b"abc\r\ndef\r\nghi\x1b[2;2H\x1b[1J", 3, 3), [b"   ", b"  f", b"ghi"])

    def test_all(self):
        self.assertEqual(written(b"abc\r\ndef\r\nghi\x1b[2;2H\x1b[2Jx", 3, 3), [b"   ", b" x ", b"   "])

    def test_nothing_else(self):
        self.assertEqual(written(b"abc\r\ndef\x1b[3J", 3, 2), [b"abc", b"def"])

    def test_region_does_not_matter(self):
        self.assertEqual(in_four(b"\x1b[2;3r\x1b[2J"), b"    ")

    def test_nothing_is_due(self):
        for how in (b"0", b"1", b"2"):
            self.assertEqual(written(b"abcdef" + ESC + how + b"Jg")[0][5:], b"g")
        self.assertEqual(written(b"abcdef\x1b[3Jg"), [b"abcdef", b"g     "])


class PutRowsIn(unittest.TestCase):
    def test_one_and_more(self):
        self.assertEqual(in_four(b"\x1b[2H\x1b[L"), b"1 23")
        self.assertEqual(in_four(b"\x1b[2H\x1b[2L"), b"1  2")
        self.assertEqual(in_four(b"\x1b[2H\x1b[3L"), b"1   ")
        self.assertEqual(in_four(b"\x1b[2H\x1b[99L"), b"1   ")
        self.assertEqual(in_four(b"\x1b[2H\x1b[0L"), b"1234")

    def test_within_the_region(self):
        self.assertEqual(in_four(b"\x1b[1;3r\x1b[2H\x1b[L"), b"1 24")
        self.assertEqual(in_four(b"\x1b[1;3r\x1b[2H\x1b[9L"), b"1  4")
        self.assertEqual(in_four(b"\x1b[2;3r\x1b[3H\x1b[L"), b"12 4")
        self.assertEqual(in_four(b"\x1b[2;3r\x1b[2H\x1b[L"), b"1 24")

    def test_outside_the_region(self):
        self.assertEqual(in_four(b"\x1b[1;3r\x1b[4H\x1b[L"), b"1234")
        self.assertEqual(in_four(b"\x1b[2;3r\x1b[L"), b"1234")

    def test_nothing_is_due(self):
        self.assertEqual(written(b"ab\x1b[Lc", 2, 3), [b" c", b"ab", b"  "])
        self.assertEqual(written(b"\x1b[1;2r\x1b[3Hab\x1b[Lc", 2, 3), [b"  ", b"  ", b"ac"])


class TakeRowsOut(unittest.TestCase):
    def test_one_and_more(self):
        self.assertEqual(in_four(b"\x1b[2H\x1b[M"), b"134 ")
        self.assertEqual(in_four(b"\x1b[2H\x1b[2M"), b"14  ")
        self.assertEqual(in_four(b"\x1b[2H\x1b[3M"), b"1   ")
        self.assertEqual(in_four(b"\x1b[2H\x1b[99M"), b"1   ")
        self.assertEqual(in_four(b"\x1b[2H\x1b[0M"), b"1234")

    def test_within_the_region(self):
        self.assertEqual(in_four(b"\x1b[1;3r\x1b[2H\x1b[M"), b"13 4")
        self.assertEqual(in_four(b"\x1b[1;3r\x1b[2H\x1b[9M"), b"1  4")
        self.assertEqual(in_four(b"\x1b[2;3r\x1b[3H\x1b[M"), b"12 4")
        self.assertEqual(in_four(b"\x1b[2;3r\x1b[2H\x1b[M"), b"13 4")

    def test_outside_the_region(self):
        self.assertEqual(in_four(b"\x1b[1;3r\x1b[4H\x1b[M"), b"1234")
        self.assertEqual(in_four(b"\x1b[2;3r\x1b[M"), b"1234")

    def test_nothing_is_due(self):
        self.assertEqual(written(b"ab\x1b[Mc", 2, 2), [b" c", b"  "])
        self.assertEqual(written(b"\x1b[1;2r\x1b[3Hab\x1b[Mc", 2, 3), [b"  ", b"  ", b"ac"])


class CellsInAndOut(unittest.TestCase):
    def test_put_in(self):
        self.assertEqual(written(b"abcdef\x1b[1;3H\x1b[@")[0], b"ab cde")
        self.assertEqual(written(b"abcdef\x1b[1;3H\x1b[2@x")[0], b"abx cd")
        self.assertEqual(written(b"abcdef\x1b[1;3H\x1b[4@")[0], b"ab    ")
        self.assertEqual(written(b"abcdef\x1b[1;3H\x1b[99@")[0], b"ab    ")
        self.assertEqual(written(b"abcdef\x1b[1;3H\x1b[0@")[0], b"abcdef")

    def test_taken_out(self):
        self.assertEqual(written(b"abcdef\x1b[1;3H\x1b[P")[0], b"abdef ")
        self.assertEqual(written(b"abcdef\x1b[1;3H\x1b[2Px")[0], b"abxf  ")
        self.assertEqual(written(b"abcdef\x1b[1;3H\x1b[4P")[0], b"ab    ")
        self.assertEqual(written(b"abcdef\x1b[1;3H\x1b[99P")[0], b"ab    ")
        self.assertEqual(written(b"abcdef\x1b[1;3H\x1b[0P")[0], b"abcdef")

    def test_nothing_is_due(self):
        for letter in b"@P":
            self.assertEqual(written(b"abcdef" + ESC + bytes([letter]) + b"g"), [b"abcdeg", b"      "])
            self.assertEqual(written(b"abcdef" + ESC + b"0" + bytes([letter]) + b"g"), [b"abcdeg", b"      "])

    def test_parted_wide_signs_go(self):
        self.assertEqual(written(b"a\xc0b\x1b[1;3H\x1b[@")[0], b"a   b ")
        self.assertEqual(written(b"a\xc0b\x1b[1;3H\x1b[P")[0], b"a b   ")
        self.assertEqual(written(b"a\xc0b\x1b[1;2H\x1b[P")[0], b"a b   ")

    def test_colours_move_with_their_cells(self):
        self.assertEqual(coloured(b"a\x1b[31mb\x1b[32mc\x1b[1;1H\x1b[@", 4, 1), [[0, 0, 1, 2]])
        self.assertEqual(coloured(b"a\x1b[31mb\x1b[32mc\x1b[1;1H\x1b[P", 4, 1), [[1, 2, 0, 0]])

    def test_other_rows_stay(self):
        self.assertEqual(written(FULL + b"\x1b[1;1H\x1b[P\x1b[2;1H\x1b[@"), [b"bcdef ", b" ghijk"])


class Colour(unittest.TestCase):
    def test_every_colour(self):
        for number in range(8):
            self.assertEqual(coloured(b"\x1b[34ma" + ESC + b"3%dmb" % number, 3, 1), [[4, number, 0]])

    def test_nought_and_left_out(self):
        self.assertEqual(coloured(b"\x1b[31ma\x1b[0mb\x1b[31mc\x1b[md", 4, 1), [[1, 0, 1, 0]])

    def test_others_do_nothing(self):
        for number in (b"1", b"29", b"38", b"7", b"999"):
            self.assertEqual(coloured(b"\x1b[33ma" + ESC + number + b"mb", 2, 1), [[3, 3]])

    def test_a_row_stays_due(self):
        self.assertEqual(written(b"abcdef\x1b[31mg"), [b"abcdef", b"g     "])


class Region(unittest.TestCase):
    def test_cursor_goes_to_the_start(self):
        self.assertEqual(place(b"\x1b[3;3H\x1b[2;3r"), (0, 0))
        self.assertEqual(place(b"\x1b[3;3H\x1b[r"), (0, 0))
        self.assertEqual(written(b"\nabcdef\x1b[rg", 6, 2)[0], b"g     ")

    def test_numbers_left_out(self):
        self.assertEqual(in_four(b"\x1b[;3r\x1b[3H\n"), b"23 4")
        self.assertEqual(in_four(b"\x1b[2r\x1b[4H\n"), b"134 ")
        self.assertEqual(in_four(b"\x1b[2;r\x1b[4H\n"), b"134 ")
        self.assertEqual(in_four(b"\x1b[2;3r\x1b[;r\x1b[4H\n"), b"234 ")

    def test_what_tells_no_region_does_nothing(self):
        for numbers in (b"0", b"0;3", b"2;2", b"3;2", b"1;5", b"4", b"1;0", b"999;999", b"1;1"):
            self.assertEqual(in_four(b"\x1b[2;3r\x1b[3H" + ESC + numbers + b"r\n"), b"13 4")

    def test_one_row_has_no_region_to_tell(self):
        self.assertEqual(place(b"ab\x1b[r", 6, 1), (0, 2))
        self.assertEqual(written(b"ab\x1b[1;1rc", 6, 1), [b"abc   "])

    def test_each_senders_own(self):
        calls = [size(2, 4), send(0, 1, DRAWN + b"\x1b[1;2r"), send(1, 1, b"\x1b[4H\n"), send(0, 1, b"\x1b[2H\n")]
        self.assertEqual([signs(answer)[:1] for answer in rows_after(calls, 4, side=1)], [b"3", b" ", b"4", b" "])


class Kept(unittest.TestCase):
    def test_place_is_kept(self):
        self.assertEqual(place(b"\x1b[2;3H\x1b[s\x1b[4;4H\x1b[u"), (1, 2))
        self.assertEqual(place(b"\x1b[2;3H\x1b[9s\x1b[4;4H\x1b[9u"), (1, 2))

    def test_new_place_is_the_start(self):
        self.assertEqual(place(b"\x1b[2;3H\x1b[u"), (0, 0))

    def test_what_is_due_is_not_kept(self):
        self.assertEqual(written(b"abcdef\x1b[s\x1b[ug"), [b"abcdeg", b"      "])
        self.assertEqual(written(b"abcdef\x1b[sg"), [b"abcdef", b"g     "])

    def test_each_senders_and_each_screens_own(self):
        given = ask(send(0, 1, b"ab\x1b[s"), send(1, 1, b"\x1b[ux\x1b[s"),
                    send(0, 1, b"\x1b[47h\x1b[1;5H\x1b[s\x1b[47l"), send(0, 1, b"\r\x1b[uy"), row(0, 0, 0))
        self.assertEqual(signs(given[4]), b"xby   ")


class Screens(unittest.TestCase):
    def test_other_screen_and_back(self):
        sent = b"ab\x1b[47hcd\x1b[47le"
        self.assertEqual(written(sent), [b"abe   ", b"      "])
        self.assertEqual(written(sent, screen=1), [b"cd    ", b"      "])

    def test_other_numbers_do_nothing(self):
        for numbers in (b"", b"0", b"46", b"48", b"999", b"47;", b"47;47", b";47"):
            self.assertEqual(written(b"a" + ESC + numbers + b"hb")[0], b"ab    ")
            self.assertEqual(written(b"\x1b[47ha" + ESC + numbers + b"lb", screen=1)[0], b"ab    ")

    def test_shown_again_nothing_changes(self):
        self.assertEqual(written(b"ab\x1b[47lc")[0], b"abc   ")
        self.assertEqual(written(b"\x1b[47hab\x1b[047hc", screen=1)[0], b"abc   ")

    def test_cursor_due_colour_and_region_are_each_screens_own(self):
        sent = b"\x1b[31mabcdef\x1b[47h\x1b[32mg\x1b[47lh"
        self.assertEqual(written(sent), [b"abcdef", b"h     "])
        self.assertEqual(written(sent, screen=1), [b"g     ", b"      "])
        self.assertEqual(coloured(sent), [[1] * 6, [1, 0, 0, 0, 0, 0]])
        self.assertEqual(in_four(b"\x1b[47h\x1b[2;3r\x1b[47l\r\n"), b"234 ")

    def test_controls_change_the_screen_shown_alone(self):
        self.assertEqual(written(b"ab\x1b[47hcd\x1b[2J"), [b"ab    ", b"      "])
        self.assertEqual(written(b"ab\x1b[47hcd\x1b[2J", screen=1), [b"      ", b"      "])

    def test_each_sender_shows_its_own(self):
        given = ask(send(0, 1, b"\x1b[47ha"), send(1, 1, b"b"), send(0, 1, b"c"), row(1, 0, 0), row(1, 1, 0))
        self.assertEqual([signs(answer) for answer in given[3:]], [b"b     ", b"ac    "])


if __name__ == "__main__":
    unittest.main()
