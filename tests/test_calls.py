"""The promises 1 to 5, call by call, with their refusals."""

import unittest

from tests.helper import ask, beat, colours, count, picture, row, send, signs, size

FAR = 10 ** 18
NEITHER = [-FAR, -1, 2, 3, FAR]


class Size(unittest.TestCase):
    def test_answers_how_many_cells(self):
        for width in range(2, 13):
            for height in range(1, 7):
                self.assertEqual(ask(size(width, height)), [[width * height]])

    def test_rows_and_columns_are_there_on_both_sides_and_screens(self):
        for side in (0, 1):
            for screen in (0, 1):
                given = ask(size(12, 6), row(side, screen, 5), row(side, screen, 6))
                self.assertEqual(given[1:], [[12] + [32] * 12 + [0] * 12, [-3]])

    def test_refuses_what_is_out_of_range(self):
        for width in (-FAR, -1, 0, 1, 13, FAR):
            self.assertEqual(ask(size(width, 3)), [[-5]])
        for height in (-FAR, -1, 0, 7, FAR):
            self.assertEqual(ask(size(3, height)), [[-5]])

    def test_all_is_new(self):
        given = ask(size(4, 2), send(0, 1, b"\x1b[31mab\x1b[2;2r\x1b[47hcd\x1b["), send(1, 0, b"x"), beat(1),
                    size(4, 2), count(0), count(1), send(0, 1, b"K"),
                    row(0, 0, 0), row(0, 1, 0), row(1, 0, 0), row(1, 1, 0))
        blank = [4, 32, 32, 32, 32, 0, 0, 0, 0]
        first = [4, 75, 32, 32, 32, 0, 0, 0, 0]
        self.assertEqual(given[4:], [[8], [0, 0, 0], [0, 0, 0], [1, 1, 0], first, blank, first, blank])

    def test_refused_leaves_everything(self):
        given = ask(size(3, 1), send(0, 1, b"ab"), send(1, 0, b""), size(1, 1), size(3, 7),
                    count(0), count(1), row(0, 0, 0), row(0, 0, 1))
        self.assertEqual(given[3:], [[-5], [-5], [1, 1, 0], [1, 0, 0], [3, 97, 98, 32, 0, 0, 0], [-3]])


class Send(unittest.TestCase):
    def test_bytes_that_come_are_on_both_sides(self):
        given = ask(send(0, 1, b"ab"), row(0, 0, 0), row(1, 0, 0))
        self.assertEqual(given[0], [1, 1, 0])
        self.assertEqual([signs(answer) for answer in given[1:]], [b"ab    ", b"ab    "])

    def test_lost_bytes_are_on_the_sending_side_alone(self):
        given = ask(send(0, 0, b"ab"), row(0, 0, 0), row(1, 0, 0))
        self.assertEqual(given[0], [1, 0, 0])
        self.assertEqual([signs(answer) for answer in given[1:]], [b"ab    ", b"      "])

    def test_no_bytes_are_a_piece_too(self):
        self.assertEqual(ask(send(1, 1, b""), send(1, 0, b""), send(1, 1, b"")), [[1, 1, 0], [2, 1, 0], [3, 3, 1]])

    def test_refuses_the_sender_first(self):
        for i in NEITHER:
            self.assertEqual(ask(send(i, 1, b"a"), send(i, 5, b"a")), [[-2], [-2]])

    def test_refuses_what_neither_comes_nor_is_lost(self):
        for comes in NEITHER:
            self.assertEqual(ask(send(0, comes, b"a"), send(1, comes, b"a")), [[-5], [-5]])

    def test_refused_leaves_everything(self):
        given = ask(send(0, 2, b"a"), send(2, 1, b"a"), count(0), count(1), row(0, 0, 0), row(1, 0, 0))
        self.assertEqual(given[2:4], [[0, 0, 0], [0, 0, 0]])
        self.assertEqual([signs(answer) for answer in given[4:]], [b"      ", b"      "])


class Picture(unittest.TestCase):
    def test_counts_like_any_piece(self):
        self.assertEqual(ask(picture(0, 1), picture(0, 0), picture(0, 1), picture(1, 0), beat(1)),
                         [[1, 1, 0], [2, 1, 0], [3, 3, 1], [1, 0, 0], [1, 1, 1]])

    def test_refuses_the_sender_first(self):
        for i in NEITHER:
            self.assertEqual(ask(picture(i, 1), picture(i, 2)), [[-2], [-2]])

    def test_refuses_what_neither_comes_nor_is_lost(self):
        for comes in NEITHER:
            self.assertEqual(ask(picture(0, comes), picture(1, comes)), [[-5], [-5]])

    def test_refused_leaves_everything(self):
        given = ask(send(0, 0, b"ab"), picture(0, 2), picture(2, 1), count(0), count(1), row(1, 0, 0))
        self.assertEqual(given[3:5], [[1, 0, 0], [0, 0, 0]])
        self.assertEqual(signs(given[5]), b"      ")


class Beat(unittest.TestCase):
    def test_nothing_sent(self):
        self.assertEqual(ask(beat(0), beat(1)), [[0, 0, 0], [0, 0, 0]])

    def test_nothing_lost(self):
        self.assertEqual(ask(send(0, 1, b"a"), beat(0)), [[1, 1, 0], [1, 1, 0]])

    def test_lost_pieces_are_counted_once(self):
        self.assertEqual(ask(send(0, 0, b"a"), picture(0, 0), beat(0), beat(0), send(0, 1, b""))[2:],
                         [[2, 2, 2], [2, 2, 2], [3, 3, 2]])

    def test_is_no_piece_and_tells_of_one_sender(self):
        self.assertEqual(ask(send(0, 0, b"a"), send(1, 0, b"a"), beat(1), count(0)),
                         [[1, 0, 0], [1, 0, 0], [1, 1, 1], [1, 0, 0]])

    def test_changes_no_cell(self):
        given = ask(send(0, 1, b"a"), send(0, 0, b"b"), beat(0), row(0, 0, 0), row(1, 0, 0))
        self.assertEqual([signs(answer) for answer in given[3:]], [b"ab    ", b"a     "])

    def test_refuses_other_senders(self):
        for i in NEITHER:
            self.assertEqual(ask(send(0, 0, b"a"), beat(i), count(0))[1:], [[-2], [1, 0, 0]])


class Row(unittest.TestCase):
    def test_right_halves_have_no_sign_but_a_colour(self):
        given = ask(send(0, 1, b"a\x1b[33m\xc0b"), row(0, 0, 0))[1]
        self.assertEqual(given, [5, 97, 192, 98, 32, 32, 0, 3, 3, 3, 0, 0])
        self.assertEqual(colours(given), [0, 3, 3, 3, 0, 0])

    def test_wide_signs_alone(self):
        self.assertEqual(ask(size(4, 1), send(0, 1, b"\xc0\xdf"), row(1, 0, 0))[2], [2, 192, 223, 0, 0, 0, 0])

    def test_side_and_screen_are_told_apart(self):
        given = ask(send(0, 1, b"a\x1b[47h"), send(0, 1, b"b"), send(0, 0, b"c"),
                    row(0, 0, 0), row(0, 1, 0), row(1, 0, 0), row(1, 1, 0))
        self.assertEqual([signs(answer) for answer in given[3:]], [b"a     ", b"bc    ", b"a     ", b"b     "])

    def test_refusals_in_their_order(self):
        for other in NEITHER:
            self.assertEqual(ask(row(other, 0, 0), row(other, 0, 9), row(0, other, 0), row(0, other, 9),
                                 row(other, other, 0)), [[-2]] * 5)
        for number in (-FAR, -1, 2, FAR):
            self.assertEqual(ask(row(0, 0, number), row(1, 1, number)), [[-3], [-3]])

    def test_changes_nothing(self):
        given = ask(send(0, 1, b"a"), row(0, 0, 0), row(0, 0, 0), row(2, 0, 0), row(0, 0, 5), row(0, 0, 0), count(0))
        self.assertEqual(given[1], given[2])
        self.assertEqual(given[1], given[5])
        self.assertEqual(given[6], [1, 1, 0])


if __name__ == "__main__":
    unittest.main()
