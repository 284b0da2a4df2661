import unittest

from tests.helper import (all_told, ask, beat, count, pen, pensure, picture, row, send, session_after, size, sure,
                          wrong)
from twosenders.screens import answers


class Interface(unittest.TestCase):
    def test_each_answer_stands_behind_its_count(self):
        self.assertEqual(answers([0, 3, 1, 1, 0, 1, 2, 97, 98, 4, 1, 0, 0, 9, 0]),
                         [1, 3, 3, 1, 1, 0, 7, 3, 97, 98, 32, 0, 0, 0, 3, 1, 1, 0])

    def test_refusal_is_its_number_alone(self):
        self.assertEqual(answers([3, 2, 4, 0, 0, 7, 5, 0, 2, 6, 0, 2, 7, 2, 9, 2]),
                         [1, -2, 1, -3, 1, -3, 1, -2, 1, -2, 1, -2])

    def test_each_telling_call_as_it_is_written(self):
        self.assertEqual(answers([0, 2, 1, 5, 0, 0, 6, 1, 0, 7, 0, 8, 9, 1]),
                         [1, 2, 2, 1, 1, 10] + [0] * 10 + [10] + [1] * 10 + [2, 0, 0, 3, 0, 0, 0])

    def test_new_object_has_six_columns_and_two_rows(self):
        blank = [6] + [32] * 6 + [0] * 6
        self.assertEqual(ask(row(0, 0, 1), row(1, 1, 1), row(0, 0, 2), count(0), count(1)),
                         [blank, blank, [-3], [0, 0, 0], [0, 0, 0]])

    def test_new_cells_are_whole_blanks(self):
        for side in session_after(size(2, 1), picture(0, 1)).sides:
            for screen in side.screens:
                self.assertEqual(screen.rows[0].cells, [(32, 0, 0), (32, 0, 0)])

    def test_bytes_that_look_like_calls_are_skipped(self):
        self.assertEqual(ask(send(0, 1, [9, 0, 4]), send(0, 1, []), count(0)), [[1, 1, 0], [2, 2, 0], [2, 2, 0]])

    def test_refused_send_skips_its_bytes_too(self):
        self.assertEqual(ask(send(2, 1, [0, 0, 0]), send(0, 2, [3, 3]), beat(0)), [[-2], [-5], [0, 0, 0]])

    def test_greatest_list(self):
        calls = [send(0, 1, [97] * 100)] * 100
        self.assertEqual(ask(*calls)[-1], [100, 100, 0])

    def test_what_is_handed_in_is_not_changed(self):
        calls = size(3, 2) + send(0, 1, b"\x1b[2Kab\n\xc0cd\n") + picture(0, 1) + row(1, 0, 0)
        calls += sure(0, 0) + pen(1, 0) + pensure(0) + wrong() + count(0)
        before = list(calls)
        answers(calls)
        self.assertEqual(calls, before)

    def test_nothing_is_kept_from_one_time_to_the_next(self):
        calls = send(0, 1, b"ab\x1b[") + send(1, 0, b"c") + row(0, 0, 0) + size(3, 3) + send(0, 1, b"x") + row(0, 0, 0)
        first = answers(calls)
        self.assertEqual(answers(calls), first)
        self.assertEqual(ask(count(0), row(0, 0, 0)), [[0, 0, 0], [6] + [32] * 6 + [0] * 6])

    def test_what_is_given_back_is_whole_numbers_in_a_list(self):
        calls = [size(3, 2), send(0, 1, b"ab\xc0"), send(1, 0, b""), beat(1), size(0, 0)] + all_told(2)
        given = answers([number for call in calls for number in call])
        self.assertIs(type(given), list)
        self.assertEqual({type(number) for number in given}, {int})

    def test_example_of_the_document(self):
        told = [
            (send(0, 1, b"ab"), [1, 1, 0]),
            (send(1, 1, b"\x1b["), [1, 1, 0]),
            (send(0, 1, b"c"), [2, 2, 0]),
            (row(1, 0, 0), [6, 97, 98, 99, 32, 32, 32, 0, 0, 0, 0, 0, 0]),
            (send(0, 0, b"d"), [3, 2, 0]),
            (wrong(), [1, 1]),
            (send(0, 1, b"e"), [4, 4, 1]),
            (wrong(), [2, 0]),
            (sure(0, 0), [0, 0, 0, 0, 0, 0]),
            (send(1, 1, b"2Kf"), [2, 2, 0]),
            (sure(0, 0), [1, 1, 1, 1, 1, 1]),
            (wrong(), [0, 0]),
            (pensure(0), [0, 0, 0, 0, 0, 0, 0, 0, 0, 0]),
            (send(0, 1, b"\x1b[47l\x1b[H"), [5, 5, 1]),
            (pensure(0), [1, 1, 1, 0, 0, 0, 0, 0, 0, 0]),
            (picture(0, 1), [6, 6, 1]),
            (pensure(0), [1, 1, 1, 1, 1, 1, 1, 1, 1, 1]),
        ]
        self.assertEqual(ask(*[call for call, answer in told]), [answer for call, answer in told])


if __name__ == "__main__":
    unittest.main()
