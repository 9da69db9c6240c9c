"""Points 5, 6 and 9 to 11: open, close, take, release, unused."""

from tests.lines import (LineCase, article, close, count, day, granted, issue, open_, recall, receive, received,
                         release,
                         reserve, row, sweep, take, throw, unused)

STOCK = [*granted(article(1), article(2), open_(5)),
         *received(receive(12, 1, 10, 9), receive(11, 1, 10, 8), receive(10, 2, 10, 9))]


class OpenTest(LineCase):
    def test_a_new_session(self):
        store = self.check(*granted(open_(1), open_(1000000000)), (close(1), [0]), (release(1000000000), [0]))
        self.assertFalse(store.sessions[1000000000].closed)
        self.assertFalse(store.sessions[1000000000].broken)

    def test_known_already(self):
        self.check(*granted(open_(5)), (open_(5), [-3]), (close(5), [0]), (open_(5), [-3]), (release(5), [-7]))

    def test_ranges(self):
        self.check((open_(0), [-1]), (open_(1000000001), [-1]), (open_(-5), [-1]))

    def test_128_sessions(self):
        full = granted(*[open_(k) for k in range(1, 129)])
        self.check(*full, (open_(129), [-8]), (open_(128), [-3]), (close(1), [0]), (open_(129), [-8]), (open_(1), [-3]),
                   (open_(0), [-1]))


class CloseTest(LineCase):
    def test_how_many_it_used(self):
        store = self.check(*STOCK, *granted(open_(6)), (issue(5, 1, 12), row((11, 10), (12, 2))),
                           (issue(6, 1, 3), row((12, 3))), (issue(5, 2, 4), row((10, 4))), (unused(5, 11, 1), [9]),
                           (close(5), [15]), (close(6), [3]))
        self.assertTrue(store.sessions[5].closed)

    def test_what_a_closed_session_is_refused(self):
        self.check(*STOCK, (issue(5, 1, 1), row((11, 1))), (close(5), [1]), (close(5), [-7]), (issue(5, 1, 1), [-7]),
                   (reserve(5, 1, 1), [-7]), (take(5), [-7]), (release(5), [-7]), (unused(5, 11, 1), [-7]),
                   (recall(11), [1, 5, 1, 0]))

    def test_something_is_held(self):
        self.check(*STOCK, (reserve(5, 1, 1), row((11, 1))), (close(5), [-18]), (take(5), row((11, 1))),
                   (close(5), [1]))
        self.check(*STOCK, (reserve(5, 1, 1), row((11, 1))), (release(5), row((11, 1))), (close(5), [0]))

    def test_what_is_held_for_another_is_no_matter(self):
        self.check(*STOCK, *granted(open_(6)), (reserve(5, 1, 1), row((11, 1))), (close(6), [0]), (close(5), [-18]))

    def test_a_broken_session_closes_and_is_not_broken(self):
        store = self.check(*STOCK, (reserve(5, 1, 1), row((11, 1))), (recall(11), [0, 1, 5, 1]), (close(5), [0]),
                           (reserve(5, 1, 1), [-7]), (take(5), [-7]))
        self.assertFalse(store.sessions[5].broken)

    def test_a_broken_session_with_something_held(self):
        self.check(*STOCK, (reserve(5, 1, 11), row((11, 10), (12, 1))), (recall(11), [0, 1, 5, 10]), (close(5), [-18]),
                   (release(5), row((12, 1))), (close(5), [0]))

    def test_refusals(self):
        self.check(*STOCK, (close(6), [-6]), (close(0), [-1]), (close(1000000001), [-1]), (close(5), [0]))


class TakeTest(LineCase):
    def test_all_that_is_held_is_used(self):
        self.check(*STOCK, (reserve(5, 1, 11), row((11, 10), (12, 1))), (reserve(5, 2, 3), row((10, 3))),
                   (issue(5, 1, 2), row((12, 2))), (take(5), row((12, 1), (11, 10), (10, 3))), (take(5), [-17]),
                   (recall(12), [1, 5, 3, 0]), (recall(11), [1, 5, 10, 0]), (close(5), [16]))

    def test_only_its_own(self):
        self.check(*STOCK, *granted(open_(6)), (reserve(5, 1, 2), row((11, 2))), (reserve(6, 1, 3), row((11, 3))),
                   (take(6), row((11, 3))), (take(6), [-17]), (take(5), row((11, 2))))

    def test_several_reservations_of_one_lot_are_one(self):
        self.check(*STOCK, (reserve(5, 1, 2), row((11, 2))), (reserve(5, 1, 3), row((11, 3))), (take(5), row((11, 5))))

    def test_broken(self):
        self.check(*STOCK, (reserve(5, 1, 11), row((11, 10), (12, 1))), (recall(11), [0, 1, 5, 10]), (take(5), [-16]),
                   (release(5), row((12, 1))), (take(5), [-17]))

    def test_broken_goes_before_nothing_held(self):
        self.check(*STOCK, (reserve(5, 1, 1), row((11, 1))), (day(9), row((5, 11, 1))), (take(5), [-16]),
                   (release(5), [0]), (take(5), [-17]))

    def test_refusals(self):
        self.check(*STOCK, (take(5), [-17]), (take(6), [-6]), (take(0), [-1]), (take(1000000001), [-1]),
                   (close(5), [0]), (take(5), [-7]))


class ReleaseTest(LineCase):
    def test_all_that_is_held_is_free_again(self):
        self.check(*STOCK, (reserve(5, 1, 11), row((11, 10), (12, 1))), (reserve(5, 2, 3), row((10, 3))),
                   (release(5), row((12, 1), (11, 10), (10, 3))), (release(5), [0]), (throw(11, 10), [0]),
                   (throw(12, 10), [0]), (throw(10, 10), [0]))

    def test_only_its_own(self):
        self.check(*STOCK, *granted(open_(6)), (reserve(5, 1, 2), row((11, 2))), (reserve(6, 1, 3), row((11, 3))),
                   (release(6), row((11, 3))), (release(6), [0]), (throw(11, 9), [-15]), (take(5), row((11, 2))))

    def test_it_is_not_broken_any_more(self):
        store = self.check(*STOCK, (reserve(5, 1, 11), row((11, 10), (12, 1))), (recall(11), [0, 1, 5, 10]),
                           (reserve(5, 1, 1), [-16]), (release(5), row((12, 1))), (reserve(5, 1, 2), row((12, 2))),
                           (take(5), row((12, 2))))
        self.assertFalse(store.sessions[5].broken)

    def test_what_it_used_stays_used(self):
        self.check(*STOCK, (issue(5, 1, 2), row((11, 2))), (reserve(5, 1, 3), row((11, 3))), (release(5), row((11, 3))),
                   (recall(11), [1, 5, 2, 0]))

    def test_refusals(self):
        self.check(*STOCK, (release(6), [-6]), (release(0), [-1]), (release(1000000001), [-1]), (close(5), [0]),
                   (release(5), [-7]))


class UnusedTest(LineCase):
    def test_some_are_free_again(self):
        self.check(*STOCK, (issue(5, 1, 10), row((11, 10))), (unused(5, 11, 4), [6]), (throw(11, 4), [0]),
                   (unused(5, 11, 1), [5]), (issue(5, 1, 2), row((11, 1), (12, 1))), (recall(11), [1, 5, 6, 0]))

    def test_all_of_it_and_the_session_is_not_told(self):
        self.check(*STOCK, *granted(open_(6)), (issue(5, 1, 4), row((11, 4))), (issue(6, 1, 1), row((11, 1))),
                   (unused(5, 11, 4), [0]), (unused(5, 11, 1), [-17]), (recall(11), [1, 6, 1, 0]), (close(5), [0]))

    def test_what_came_back_can_be_used_again(self):
        self.check(*STOCK, (issue(5, 1, 10), row((11, 10))), (unused(5, 11, 10), [0]), (issue(5, 1, 10), row((11, 10))),
                   (recall(11), [1, 5, 10, 0]))

    def test_a_lot_that_is_called_back(self):
        self.check(*STOCK, (issue(5, 1, 4), row((11, 4))), (recall(11), [1, 5, 4, 0]), (unused(5, 11, 3), [1]),
                   (throw(11, 10), [-15]), (throw(11, 9), [0]), (issue(5, 1, 1), row((12, 1))))

    def test_a_lot_past_its_last_day(self):
        self.check(*STOCK, (issue(5, 1, 4), row((11, 4))), (day(9), [0]), (unused(5, 11, 3), [1]),
                   (count(11, 9), [0, 0]),
                   (issue(5, 1, 1), row((12, 1))), (sweep(), row((11, 9))))

    def test_what_is_held_is_not_used(self):
        self.check(*STOCK, (reserve(5, 1, 4), row((11, 4))), (unused(5, 11, 1), [-17]), (take(5), row((11, 4))),
                   (unused(5, 11, 4), [0]))

    def test_what_another_used_is_no_matter(self):
        self.check(*STOCK, *granted(open_(6)), (issue(6, 1, 4), row((11, 4))), (unused(5, 11, 1), [-17]),
                   (unused(6, 11, 5), [-17]), (unused(6, 11, 4), [0]))

    def test_refusals(self):
        self.check(*STOCK, (issue(5, 1, 4), row((11, 4))), (unused(6, 11, 1), [-6]), (unused(5, 19, 1), [-5]),
                   (unused(5, 11, 5), [-17]), (unused(5, 12, 1), [-17]), (unused(5, 11, 1000000000000000), [-17]),
                   (unused(5, 11, 1000000000000001), [-1]), (unused(5, 11, 0), [-1]), (unused(5, 11, 4), [0]))

    def test_the_first_refusal_is_told(self):
        self.check(*STOCK, (unused(6, 19, 1), [-6]), (unused(6, 19, 0), [-1]), (unused(5, 19, 0), [-1]),
                   (unused(6, 11, 1), [-6]), (unused(5, 19, 1000), [-5]), (close(5), [0]), (unused(5, 19, 1), [-7]),
                   (unused(5, 11, 1), [-7]), (unused(5, 19, 0), [-1]))
