"""The interface: one list of whole numbers in, one list of whole numbers out."""

import unittest

import lotstore.desk
from tests.lines import (LineCase, article, close, granted, issue, open_, recall, receive, recipe, reserve, row, run,
                         take)

LINE = [1, 1, 0, 1, 2, 0, 3, 2, 2, 1, 3, 4, 10, 1, 9, 5, 5, 77, 7, 77, 2, 2, 8, 77, 1, 3, 15, 10, 6, 77, 3, 1, 0, 9, 77]
ANSWERS = [1, 0, 1, 0, 1, 0, 1, 9, 1, 0, 3, 1, 10, 6, 3, 1, 10, 3, 6, 1, 77, 6, 1, 77, 3, 1, 6, 1, -9, 1, -7]

# Each of the 31 calls once, in the order of their places: the call, its answer with how many numbers it has ahead.
ALL_CALLS = [
    ([0, 2], [1, 0]),
    ([1, 1, 40], [1, 0]),
    ([1, 2, 5], [1, 0]),
    ([2, 1, 30], [1, 0]),
    ([3, 2, 2, 1, 3], [1, 0]),
    ([4, 10, 1, 9, 5], [1, 9]),
    ([4, 11, 1, 20, 6], [1, 20]),
    ([5, 77], [1, 0]),
    ([5, 78], [1, 0]),
    ([6, 78], [1, 0]),
    ([7, 77, 2, 2], [3, 1, 10, 6]),
    ([8, 77, 1, 5], [5, 2, 10, 3, 11, 2]),
    ([9, 77], [5, 2, 10, 3, 11, 2]),
    ([10, 77], [1, 0]),
    ([11, 77, 10, 4], [1, 5]),
    ([12, 10, 1, 3], [1, 3]),
    ([13, 3], [1, 0]),
    ([14, 10, 8], [2, 5, 0]),
    ([15, 10], [4, 1, 77, 5, 0]),
    ([16, 1, 0, 1], [1, 0]),
    ([17, 2, 4], [3, 1, 1, 12]),
    ([18, 2], [1, 6]),
    ([19, 2, 7], [3, 1, 1, 3]),
    ([20, 1], [4, 18, 26, 0, 7]),
    ([21, 10], [11, 1, 5, 2, 9, 5, 8, 0, 5, 1, 0, 1]),
    ([22, 11], [3, 1, 77, 2]),
    ([23, 77], [5, 2, 10, 5, 11, 2]),
    ([24, 78], [3, 1, 0, 0]),
    ([25, 2], [4, 5, 1, 1, 3]),
    ([26], [3, 1, 1, 12]),
    ([27, 4], [4, 1, 11, 6, 18]),
    ([28, 1, 7], [2, 2, 0]),
    ([29], [9, 0, 0, 1, 0, 0, 0, 0, 0, 0]),
    ([30, 77], [2, 1, 77]),
]


class AnswersTest(unittest.TestCase):
    def test_a_whole_line(self):
        """Each answer has its count of numbers before it, a refusal and 0 too."""
        self.assertEqual(lotstore.desk.answers(list(LINE)), ANSWERS)

    def test_each_of_the_calls(self):
        self.assertEqual(sorted({call[0] for call, told in ALL_CALLS}), list(range(31)))
        line = [number for call, told in ALL_CALLS for number in call]
        got = lotstore.desk.answers(list(line))
        self.assertEqual(got, [number for call, told in ALL_CALLS for number in told])
        for number in got:
            self.assertIs(type(number), int)

    def test_calls_without_arguments(self):
        self.assertEqual(lotstore.desk.answers([26]), [1, 0])
        self.assertEqual(lotstore.desk.answers([29]), [9] + [0] * 9)
        self.assertEqual(lotstore.desk.answers([26, 29, 26, 5, 1, 29]), [1, 0, 9, *[0] * 9, 1, 0, 1, 0, 9, *[0] * 9])

    def test_every_call_begins_where_the_one_before_ended(self):
        self.assertEqual(lotstore.desk.answers([3, 1, 4, 5, 5, 5, 5, 5, 6]), [1, -1, 1, 0])
        self.assertEqual(lotstore.desk.answers([3, 1, 0, 0, 0, 3, 0, 1, 0, 13, 1]), [1, -4, 1, 0, 1, -1, 1, 0])

    def test_what_is_handed_in_is_not_changed(self):
        handed_in = list(LINE)
        lotstore.desk.answers(handed_in)
        self.assertEqual(handed_in, LINE)

    def test_nothing_is_kept_from_one_time_to_the_next(self):
        first = lotstore.desk.answers(list(LINE))
        first.append(5)
        self.assertEqual(lotstore.desk.answers([29, 26, 24, 77]), [9, *[0] * 9, 1, 0, 1, -6])
        self.assertEqual(lotstore.desk.answers([5, 77]), [1, 0])
        self.assertEqual(lotstore.desk.answers(list(LINE)), ANSWERS)
        self.assertEqual(lotstore.desk.answers([15, 10, 0, 0, 9, 77]), [1, -5, 1, 0, 1, -6])

    def test_answers_are_whole_numbers(self):
        for number in lotstore.desk.answers(list(LINE)):
            self.assertIs(type(number), int)

    def test_what_is_no_call(self):
        self.assertEqual(lotstore.desk.answers([-1, 5]), [1, -100])
        self.assertEqual(lotstore.desk.answers([31]), [1, -100])
        self.assertEqual(lotstore.desk.answers([31, 1]), [1, -100])
        self.assertEqual(lotstore.desk.answers([30]), [1, -100])
        self.assertEqual(lotstore.desk.answers([26, 16, 1, 0]), [1, 0, 1, -100])
        self.assertEqual(lotstore.desk.answers([5, 1, 6]), [1, 0, 1, -100])
        self.assertEqual(lotstore.desk.answers([5, 1, 3, 1]), [1, 0, 1, -100])
        self.assertEqual(lotstore.desk.answers([3, 1, -1]), [1, -100])
        self.assertEqual(lotstore.desk.answers([3, 1, 2, 7]), [1, -100])


class LongLinesTest(LineCase):
    def test_four_hundred_calls(self):
        steps = granted(article(1), *[open_(k) for k in range(1, 100)])
        steps += [(receive(l, 1, 100, 1000 - l), [100]) for l in range(1, 201)]
        steps += [(issue(k, 1, 200), row((202 - 2 * k, 100), (201 - 2 * k, 100))) for k in range(1, 100)]
        steps += [(reserve(1, 1, 200), row((2, 100), (1, 100)))]
        self.assertEqual(len(steps), 400)
        self.check(*steps)

    def test_sixteen_thousand_numbers(self):
        """160 lists of 97 numbers: a list as long as it may be, with nothing granted in it."""
        call = recipe(1, *[1] * 97)
        self.assertEqual(len(call) * 160, 16000)
        self.assertEqual(run([call] * 160), [[-1]] * 160)

    def test_a_long_row(self):
        """A need picked from 256 lots, and a lot used by 128 sessions."""
        lots = [receive(l, 1, 1, 256 - l) for l in range(1, 257)]
        picked = [(l, 1) for l in range(256, 0, -1)]
        self.check(*granted(article(1), open_(5)), *[(call, [1]) for call in lots],
                   (reserve(5, 1, 256), row(*picked)), (take(5), row(*picked[::-1])), (close(5), [256]))
        sessions = range(128, 0, -1)
        self.check(*granted(article(1), *[open_(k) for k in sessions]), (receive(10, 1, 1000, 3), [1000]),
                   *[(issue(k, 1, k % 3 + 1), row((10, k % 3 + 1))) for k in sessions],
                   *[(reserve(k, 1, 1), row((10, 1))) for k in sessions],
                   (recall(10), row(*[(k, k % 3 + 1) for k in range(1, 129)]) + row(*[(k, 1) for k in range(1, 129)])))
