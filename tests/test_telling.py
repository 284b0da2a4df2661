"""The promises 6 to 10, call by call, with their refusals."""

import unittest

from tests.helper import all_told, ask, beat, count, pen, pensure, picture, row, send, size, sure, wrong

FAR = 10 ** 18
NEITHER = [-FAR, -1, 2, 3, FAR]
BOTH = (0, 1)
# Both senders, both screens, both sides: each has something of its own, and not all of it is sure.
MIXED = [size(5, 3), send(0, 1, b"\x1b[31mab\xc0cd"), send(1, 1, b"\x1b[2;3H\x1b[s\x1b[47hxy\x1b[1;2r\x1b[4"),
         send(0, 0, b"\x1b[47hz"), send(0, 1, b"\x1b[47l\x1b[2;2H\x1b[1Kx\x1b["), send(1, 0, b"7l")]


def told_after(calls, *more):
    return ask(*calls, *more)[len(calls):]


class Refused(unittest.TestCase):
    def check(self, number, *refused):
        before = told_after(MIXED, *all_told(3))
        for call in refused:
            given = told_after(MIXED, call, *all_told(3))
            self.assertEqual(given[0], [number], call)
            self.assertEqual(given[1:], before, call)

    def test_sure_looks_at_the_screen_first(self):
        for screen in NEITHER:
            self.check(-2, sure(screen, 0), sure(screen, -1), sure(screen, 3), sure(screen, FAR))

    def test_sure_then_looks_at_the_row(self):
        for number in (-FAR, -1, 3, 4, FAR):
            self.check(-3, sure(0, number), sure(1, number))

    def test_pen_looks_at_the_side_and_at_the_sender(self):
        for other in NEITHER:
            self.check(-2, pen(other, 0), pen(other, 1), pen(0, other), pen(1, other), pen(other, other))

    def test_pensure_looks_at_the_sender(self):
        for i in NEITHER:
            self.check(-2, pensure(i))

    def test_count_looks_at_the_sender(self):
        for i in NEITHER:
            self.check(-2, count(i))

    def test_the_other_calls_leave_everything_too(self):
        self.check(-5, size(1, 3), size(13, 3), size(5, 0), size(5, 7))
        self.check(-2, send(2, 1, b"a\n"), send(-1, 0, b"a"), picture(2, 1), beat(2), row(2, 0, 0), row(0, 2, 0))
        self.check(-5, send(0, 2, b"a\n"), send(1, -1, b"a"), picture(0, 2), picture(1, -1))
        self.check(-3, row(0, 0, 3), row(1, 1, -1))


class Telling(unittest.TestCase):
    def test_changes_nothing(self):
        before = told_after(MIXED, *all_told(3))
        self.assertEqual(told_after(MIXED, *all_told(3), *all_told(3)), before * 2)

    def test_wrong_has_no_numbers_behind_its_own(self):
        self.assertEqual(ask([8], [8], [9, 0]), [[0, 0], [0, 0], [0, 0, 0]])

    def test_whole_numbers_alone(self):
        for answer in told_after(MIXED, *all_told(3)):
            self.assertEqual({type(number) for number in answer}, {int})


class Sure(unittest.TestCase):
    def test_as_many_numbers_as_columns(self):
        for width in range(2, 13):
            for height in range(1, 7):
                for screen in BOTH:
                    given = ask(size(width, height), sure(screen, 0), sure(screen, height - 1), sure(screen, height))
                    self.assertEqual(given[1:], [[1] * width, [1] * width, [-3]])

    def test_a_new_object(self):
        self.assertEqual(ask(sure(0, 0), sure(0, 1), sure(1, 0), sure(1, 1), sure(1, 2)), [[1] * 6] * 4 + [[-3]])

    def test_cell_by_cell_on_both_screens(self):
        for i in BOTH:
            calls = [size(4, 2), send(i, 0, b""), send(i, 1, b"\x1b[47l\x1b[2;3H\x1b[K\x1b[47h\x1b[1;2H\x1b[1K")]
            self.assertEqual(told_after(calls, sure(0, 0), sure(0, 1), sure(1, 0), sure(1, 1)),
                             [[0, 0, 0, 0], [0, 0, 1, 1], [1, 1, 0, 0], [0, 0, 0, 0]])

    def test_size_in_the_midst_of_doubt(self):
        for i in BOTH:
            calls = [size(5, 3), send(i, 0, b"a"), beat(i)]
            self.assertEqual(told_after(calls, sure(0, 2), sure(1, 2)), [[0] * 5] * 2)
            for width, height in ((3, 2), (12, 6), (5, 3)):
                more = [size(width, height)]
                self.assertEqual(told_after(calls + more, sure(0, height - 1), sure(1, height - 1), sure(0, height)),
                                 [[1] * width] * 2 + [[-3]])
                # The new size has its own last row, and its own doubts.
                more += [send(i, 0, b""), send(i, 1, b"\x1b[47h\x1b[9;9H\x1b[2K")]
                self.assertEqual(told_after(calls + more, sure(0, height - 1), sure(1, height - 1), sure(1, 0)),
                                 [[0] * width, [1] * width, [0] * width])


class Pen(unittest.TestCase):
    def check(self, sent, told, width=6, height=3):
        """What a sender's pen is, on the side where the bytes were; all others are new ones."""
        fresh = [0, 0, 0, 0, 0, height - 1, 0, 0, 0, 0]
        for i in BOTH:
            for comes in BOTH:
                calls = [size(width, height), send(i, comes, sent)]
                self.assertEqual(told_after(calls, pen(0, i), pen(1, i), pen(0, 1 - i), pen(1, 1 - i)),
                                 [told, told if comes else fresh, fresh, fresh], (i, comes, sent))

    def test_a_new_object(self):
        self.assertEqual(ask(pen(0, 0), pen(0, 1), pen(1, 0), pen(1, 1)), [[0, 0, 0, 0, 0, 1, 0, 0, 0, 0]] * 4)

    def test_a_new_size(self):
        for width in range(2, 13):
            for height in range(1, 7):
                self.check(b"", [0, 0, 0, 0, 0, height - 1, 0, 0, 0, 0], width, height)
                self.check(b"\x1b[99;99H", [height - 1, width - 1, 0, 0, 0, height - 1, 0, 0, 0, 0], width, height)

    def test_cursor(self):
        self.check(b"\x1b[2;5H", [1, 4, 0, 0, 0, 2, 0, 0, 0, 0])
        self.check(b"ab\n\xc0", [1, 4, 0, 0, 0, 2, 0, 0, 0, 0])

    def test_due(self):
        self.check(b"abcde", [0, 5, 0, 0, 0, 2, 0, 0, 0, 0])
        self.check(b"abcdef", [0, 5, 1, 0, 0, 2, 0, 0, 0, 0])
        self.check(b"abcd\xc0", [0, 5, 1, 0, 0, 2, 0, 0, 0, 0])
        self.check(b"abcdefg", [1, 1, 0, 0, 0, 2, 0, 0, 0, 0])
        self.check(b"abcdef\x1b[C", [0, 5, 0, 0, 0, 2, 0, 0, 0, 0])

    def test_colour(self):
        self.check(b"\x1b[35m", [0, 0, 0, 5, 0, 2, 0, 0, 0, 0])
        self.check(b"\x1b[35m\x1b[m", [0, 0, 0, 0, 0, 2, 0, 0, 0, 0])

    def test_region(self):
        self.check(b"ab\x1b[2;3r", [0, 0, 0, 0, 1, 2, 0, 0, 0, 0])
        self.check(b"ab\x1b[;2r", [0, 0, 0, 0, 0, 1, 0, 0, 0, 0])
        self.check(b"ab\x1b[3;3r", [0, 2, 0, 0, 0, 2, 0, 0, 0, 0])
        self.check(b"\x1b[4;6r", [0, 0, 0, 0, 3, 5, 0, 0, 0, 0], 2, 6)

    def test_kept_place(self):
        self.check(b"\x1b[3;2H\x1b[s\x1b[H", [0, 0, 0, 0, 0, 2, 2, 1, 0, 0])
        self.check(b"\x1b[3;2H\x1b[s\x1b[H\x1b[u", [2, 1, 0, 0, 0, 2, 2, 1, 0, 0])

    def test_the_screen_written_to(self):
        main = b"\x1b[31m\x1b[1;2r\x1b[2;3H\x1b[s\x1b[3;4H"
        other = b"\x1b[47h\x1b[32m\x1b[2;3r\x1b[1;2H\x1b[s\x1b[3;6Hx"
        self.check(main, [2, 3, 0, 1, 0, 1, 1, 2, 0, 0])
        self.check(main + b"\x1b[47h", [0, 0, 0, 0, 0, 2, 0, 0, 1, 0])
        self.check(main + other, [2, 5, 1, 2, 1, 2, 0, 1, 1, 0])
        self.check(main + other + b"\x1b[47l", [2, 3, 0, 1, 0, 1, 1, 2, 0, 0])
        self.check(main + other + b"\x1b[47l\x1b[47h", [2, 5, 1, 2, 1, 2, 0, 1, 1, 0])

    def test_how_many_bytes_are_held(self):
        longest = b"\x1b[12;45;789;"
        for many in range(13):
            self.check(longest[:many], [0, 0, 0, 0, 0, 2, 0, 0, 0, many])
        self.check(longest + b";", [0, 1, 0, 0, 0, 2, 0, 0, 0, 0])
        self.check(longest + b"\x1b", [0, 0, 0, 0, 0, 2, 0, 0, 0, 1])
        self.check(longest + b"A", [0, 0, 0, 0, 0, 2, 0, 0, 0, 0])

    def test_each_sender_has_its_own_on_the_same_screen(self):
        given = ask(send(0, 1, b"abc\x1b[33m\x1b[47h"), send(1, 1, b"\n\x1b["), send(0, 1, b"x"),
                    pen(0, 0), pen(1, 0), pen(0, 1), pen(1, 1))
        self.assertEqual(given[3:], [[0, 1, 0, 0, 0, 1, 0, 0, 1, 0]] * 2 + [[1, 0, 0, 0, 0, 1, 0, 0, 0, 2]] * 2)

    def test_a_picture_brings_its_senders_alone(self):
        lost = b"\x1b[36m\x1b[1;2r\x1b[2;2H\x1b[s\x1b[3;3H\x1b[47h\x1b[2;6Hx\x1b["
        told = [1, 5, 1, 0, 0, 2, 0, 0, 1, 2]
        fresh = [0, 0, 0, 0, 0, 2, 0, 0, 0, 0]
        for i in BOTH:
            calls = [size(6, 3), send(0, 0, lost), send(1, 0, lost), picture(i, 1)]
            self.assertEqual(told_after(calls, pen(0, i), pen(1, i), pen(0, 1 - i), pen(1, 1 - i)),
                             [told, told, told, fresh])
            calls.append(send(i, 1, b"47l"))
            self.assertEqual(told_after(calls, pen(0, i), pen(1, i)), [[2, 2, 0, 6, 0, 1, 1, 1, 0, 0]] * 2)

    def test_size_makes_all_new(self):
        sent = b"\x1b[36m\x1b[1;2r\x1b[2;2H\x1b[s\x1b[3;3H\x1b[47h\x1b[2;6Hx\x1b[31m\x1b["
        for width, height in ((2, 1), (12, 6), (6, 3)):
            given = ask(size(6, 3), send(0, 1, sent), send(1, 1, sent), size(width, height),
                        pen(0, 0), pen(0, 1), pen(1, 0), pen(1, 1),
                        send(0, 1, b"\x1b[47h"), send(1, 1, b"\x1b[47h"), pen(0, 0), pen(0, 1), pen(1, 0), pen(1, 1))
            self.assertEqual(given[4:8], [[0, 0, 0, 0, 0, height - 1, 0, 0, 0, 0]] * 4)
            self.assertEqual(given[10:], [[0, 0, 0, 0, 0, height - 1, 0, 0, 1, 0]] * 4)


class PenSure(unittest.TestCase):
    # Each piece makes one more thing sure, in the order in which they are told.
    STEPS = ((b"\x1b", [1, 0, 0, 0, 0, 0, 0, 0, 0, 0]),
             (b"[47l", [1, 1, 0, 0, 0, 0, 0, 0, 0, 0]),
             (b"\x1b[H", [1, 1, 1, 0, 0, 0, 0, 0, 0, 0]),
             (b"\x1b[s", [1, 1, 1, 1, 0, 0, 0, 0, 0, 0]),
             (b"\x1b[m", [1, 1, 1, 1, 1, 0, 0, 0, 0, 0]),
             (b"\x1b[r", [1, 1, 1, 1, 1, 1, 0, 0, 0, 0]),
             (b"\x1b[47h\x1b[2;2H", [1, 1, 1, 1, 1, 1, 1, 0, 0, 0]),
             (b"\x1b[s", [1, 1, 1, 1, 1, 1, 1, 1, 0, 0]),
             (b"\x1b[31m", [1, 1, 1, 1, 1, 1, 1, 1, 1, 0]),
             (b"\x1b[1;2r", [1, 1, 1, 1, 1, 1, 1, 1, 1, 1]))

    def test_a_new_object(self):
        self.assertEqual(ask(pensure(0), pensure(1), size(12, 1), pensure(0), pensure(1)),
                         [[1] * 10, [1] * 10, [12], [1] * 10, [1] * 10])

    def test_out_of_doubt_step_by_step(self):
        for i in BOTH:
            calls = [size(3, 2), send(i, 0, b""), beat(i)]
            self.assertEqual(told_after(calls, pensure(i), pensure(1 - i)), [[0] * 10, [1] * 10])
            for sent, told in self.STEPS:
                calls.append(send(i, 1, sent))
                self.assertEqual(told_after(calls, pensure(i), pensure(1 - i)), [told, [1] * 10], sent)

    def test_out_of_doubt_on_the_other_screen_alone(self):
        for i in BOTH:
            calls = [size(3, 2), send(i, 0, b""), send(i, 1, b"\x1b[47h\x1b[H\x1b[s\x1b[m\x1b[r")]
            self.assertEqual(told_after(calls, pensure(i)), [[1, 1, 0, 0, 0, 0, 1, 1, 1, 1]])

    def test_out_of_doubt_at_once(self):
        for i in BOTH:
            calls = [send(0, 0, b""), send(1, 0, b""), beat(0), beat(1), picture(i, 1)]
            self.assertEqual(told_after(calls, pensure(i), pensure(1 - i)), [[1] * 10, [0] * 10])

    def test_size_in_the_midst_of_doubt(self):
        for width, height in ((2, 1), (12, 6), (6, 2)):
            calls = [send(0, 0, b""), send(1, 0, b""), beat(0), beat(1), size(width, height)]
            self.assertEqual(told_after(calls, pensure(0), pensure(1)), [[1] * 10] * 2)
            for i in BOTH:
                more = [send(i, 0, b""), send(i, 1, b"\x1b[47l\x1b[1;2r")]
                told = [1, 1, 1, 0, 0, 1, 0, 0, 0, 0] if height > 1 else [1, 1] + [0] * 8
                self.assertEqual(told_after(calls + more, pensure(i), pensure(1 - i)), [told, [1] * 10])


class Wrong(unittest.TestCase):
    def check(self, calls, many, lost_by=0):
        """So many cells are wrong and told sure, until the receiver learns of what was lost."""
        self.assertEqual(told_after(calls, wrong()), [[many, many]])
        self.assertEqual(told_after(calls, beat(lost_by), wrong())[1:], [[many, 0]])

    def test_nothing_is_wrong(self):
        given = ask(wrong(), size(12, 6), wrong(), send(0, 1, b"ab\xc0\n\x1b[31mc"), wrong())
        self.assertEqual(given[::2], [[0, 0]] * 3)

    def test_signs_alone(self):
        for i in BOTH:
            self.check([send(1 - i, 1, b"abc"), send(i, 0, b"axc")], 1, i)

    def test_colours_alone(self):
        for i in BOTH:
            self.check([send(1 - i, 1, b"abc"), send(i, 0, b"a\x1b[31mbc")], 2, i)
        # A blank that was written in another colour is another cell.
        self.check([send(0, 0, b"\x1b[31m ")], 1)
        self.check([send(1, 1, b"\xc0\xc1"), send(0, 0, b"\x1b[31m\xc0")], 2)

    def test_halves_alone(self):
        # Of the moved sign's cells the midmost one differs in its half alone.
        for i in BOTH:
            self.check([send(1 - i, 1, b"\xc0"), send(i, 0, b"\x1b[@")], 3, i)
            self.check([send(1 - i, 1, b"\xc0\xc0"), send(i, 0, b"\x1b[@")], 5, i)

    def test_wide_and_narrow(self):
        self.check([send(1, 1, b"ab"), send(0, 0, b"\xc0")], 2)
        self.check([send(1, 1, b"\xc0"), send(0, 0, b" ")], 2)

    def test_every_cell_of_both_screens(self):
        for width, height in ((2, 1), (12, 6), (5, 4)):
            calls = [size(width, height)]
            filled = b"a" * (width * height)
            calls += [send(0, 0, filled), send(1, 0, b"\x1b[47h" + filled)]
            cells = width * height
            self.assertEqual(told_after(calls, wrong()), [[2 * cells, 2 * cells]])
            self.assertEqual(told_after(calls, send(0, 1, b"\x1b[47h\x1b[2J"), wrong())[1:], [[cells, 0]])
            self.assertEqual(told_after(calls, send(1, 1, b"\x1b[47l\x1b[2J"), wrong())[1:], [[cells, 0]])

    def test_each_screen_counts(self):
        self.check([send(0, 0, b"ab")], 2)
        self.check([send(0, 0, b"\x1b[47hab")], 2)
        self.check([send(0, 0, b"ab\x1b[47hc")], 3)
        self.check([size(3, 3), send(0, 0, b"\x1b[2;2Hx\x1b[47h\x1b[3;3Hy")], 2)

    def test_some_are_told_sure(self):
        # The receiver knows of what the sender 0 lost; the sender 1 makes two columns sure, and then loses one more.
        given = ask(send(0, 0, b"abcdef"), beat(0), send(1, 1, b"\x1b[1;2H\x1b[1K"), wrong(),
                    send(1, 0, b"\x1b[Hx"), wrong(), beat(1), wrong())
        self.assertEqual([given[3], given[5], given[7]], [[4, 0], [5, 1], [5, 0]])

    def test_same_cells_are_not_wrong_though_not_sure(self):
        given = ask(send(0, 1, b"ab"), send(0, 0, b""), beat(0), wrong(), sure(0, 0))
        self.assertEqual(given[3:], [[0, 0], [0] * 6])

    def test_a_blank_written_is_the_same_as_one_never_written(self):
        self.assertEqual(ask(send(0, 0, b"  \xc0\x1b[D "), wrong())[1], [0, 0])

    def test_the_senders_own_state_is_no_cell(self):
        self.assertEqual(ask(send(0, 0, b"\x1b[31m\x1b[2;2H\x1b[s\x1b[1;2r\x1b["), wrong())[1], [0, 0])

    def test_a_picture_mends_it(self):
        for i in BOTH:
            given = ask(send(0, 0, b"ab\x1b[47hc"), send(1, 0, b"x"), beat(0), wrong(), picture(i, 1), wrong())
            self.assertEqual([given[3], given[5]], [[3, 0], [0, 0]])

    def test_a_lost_picture_does_not(self):
        self.assertEqual(ask(send(0, 0, b"ab"), picture(0, 0), wrong())[2], [2, 2])

    def test_size_makes_all_new(self):
        self.assertEqual(ask(send(0, 0, b"ab"), beat(0), size(12, 6), wrong())[3], [0, 0])


class Count(unittest.TestCase):
    def test_a_new_object(self):
        self.assertEqual(ask(count(0), count(1)), [[0, 0, 0]] * 2)

    def test_sent_known_and_lost(self):
        for i in BOTH:
            calls = [send(i, 1, b"a"), send(i, 0, b"b"), picture(i, 0)]
            self.assertEqual(told_after(calls, count(i), count(1 - i)), [[3, 1, 0], [0, 0, 0]])
            self.assertEqual(told_after(calls, beat(i), count(i)), [[3, 3, 2]] * 2)
            self.assertEqual(told_after(calls, picture(i, 1), count(i)), [[4, 4, 2]] * 2)
            self.assertEqual(told_after(calls, send(i, 1, b""), count(i)), [[4, 4, 2]] * 2)
            self.assertEqual(told_after(calls, beat(1 - i), count(i), count(1 - i)), [[0, 0, 0], [3, 1, 0], [0, 0, 0]])

    def test_is_no_beat(self):
        given = ask(send(0, 0, b"a"), count(0), count(0), wrong(), pensure(0))
        self.assertEqual(given[1:], [[1, 0, 0], [1, 0, 0], [1, 1], [1] * 10])

    def test_size_counts_from_the_beginning(self):
        for i in BOTH:
            given = ask(send(i, 1, b"a"), send(i, 0, b"b"), beat(i), size(3, 3), count(i), send(i, 0, b""), count(i))
            self.assertEqual(given[4:], [[0, 0, 0], [1, 0, 0], [1, 0, 0]])


if __name__ == "__main__":
    unittest.main()
