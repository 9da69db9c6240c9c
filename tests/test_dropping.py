"""Points 0 and 15: day and recall, and what they drop."""

from tests.lines import (LineCase, article, close, count, day, granted, issue, open_, recall, receive, received,
                         release,
                         reserve, row, sweep, take, throw, unused)

LOTS = [*granted(article(1), article(2), article(3), open_(9), open_(4), open_(6)),
        *received(receive(13, 1, 10, 5), receive(11, 2, 10, 5), receive(12, 3, 10, 8))]
HELD = [*LOTS, (reserve(9, 2, 1), row((11, 1))), (reserve(4, 2, 2), row((11, 2))), (reserve(9, 1, 3), row((13, 3))),
        (reserve(6, 1, 4), row((13, 4))), (reserve(6, 3, 5), row((12, 5))), (reserve(4, 1, 1), row((13, 1)))]


class DayTest(LineCase):
    def test_the_day_goes_on(self):
        store = self.check((day(0), [0]), (day(1), [0]), (day(1), [0]), (day(7), [0]), (day(6), [-2]), (day(0), [-2]),
                           (day(7), [0]), (day(1000000), [0]), (day(999999), [-2]), (day(1000000), [0]))
        self.assertEqual(store.day, 1000000)

    def test_an_argument_goes_before_a_past_day(self):
        self.check((day(-1), [-1]), (day(5), [0]), (day(-1), [-1]), (day(4), [-2]), (day(1000001), [-1]), (day(5), [0]))

    def test_the_last_day_itself_is_good(self):
        self.check(*HELD, (day(5), [0]), (take(9), row((13, 3), (11, 1))), (issue(9, 1, 1), row((13, 1))))

    def test_what_was_dropped(self):
        store = self.check(*HELD, (day(6), row((4, 13, 1), (6, 13, 4), (9, 13, 3), (4, 11, 2), (9, 11, 1))),
                           (day(6), [0]), (throw(13, 10), [0]), (throw(11, 10), [0]), (throw(12, 6), [-15]),
                           (throw(12, 5), [0]))
        self.assertEqual([k for k, session in store.sessions.items() if session.broken], [9, 4, 6])

    def test_all_at_once(self):
        self.check(*HELD, (day(9), row((4, 13, 1), (6, 13, 4), (9, 13, 3), (4, 11, 2), (9, 11, 1), (6, 12, 5))),
                   (sweep(), row((13, 10), (11, 10), (12, 10))))

    def test_only_those_for_which_something_was_held_are_broken(self):
        store = self.check(*LOTS, (reserve(9, 1, 1), row((13, 1))), (reserve(4, 3, 1), row((12, 1))),
                           (issue(6, 1, 2), row((13, 2))), (day(6), row((9, 13, 1))), (take(4), row((12, 1))),
                           (take(9), [-16]), (take(6), [-17]))
        self.assertEqual([k for k, session in store.sessions.items() if session.broken], [9])

    def test_what_is_dropped_is_free_in_its_own_lot(self):
        self.check(*LOTS, (reserve(9, 1, 4), row((13, 4))), (day(6), row((9, 13, 4))), (count(13, 10), [0, 0]),
                   (issue(9, 1, 1), [-15]), (sweep(), row((13, 10), (11, 10))))

    def test_what_was_released_is_not_dropped(self):
        self.check(*LOTS, (reserve(9, 1, 4), row((13, 4))), (release(9), row((13, 4))), (day(6), [0]),
                   (reserve(9, 3, 1), row((12, 1))))

    def test_a_refused_day_drops_nothing(self):
        self.check(*HELD, (day(5), [0]), (day(4), [-2]), (day(-1), [-1]), (take(6), row((13, 4), (12, 5))))


class RecallTest(LineCase):
    def test_who_used_it_and_for_whom_it_was_held(self):
        store = self.check(*HELD, (issue(6, 1, 1), row((13, 1))), (issue(4, 2, 2), row((11, 2))),
                           (recall(13), [1, 6, 1, 3, 4, 1, 6, 4, 9, 3]), (recall(11), [1, 4, 2, 2, 4, 2, 9, 1]),
                           (recall(12), [0, 1, 6, 5]), (throw(13, 10), [-15]), (throw(13, 9), [0]), (throw(11, 8), [0]),
                           (throw(12, 10), [0]))
        self.assertTrue(all(lot.called_back for lot in store.lots.values()))

    def test_the_smaller_session_first(self):
        self.check(*LOTS, (issue(9, 1, 3), row((13, 3))), (issue(4, 1, 2), row((13, 2))),
                   (issue(6, 1, 1), row((13, 1))),
                   (reserve(6, 1, 2), row((13, 2))), (reserve(4, 1, 1), row((13, 1))),
                   (recall(13), [3, 4, 2, 6, 1, 9, 3, 2, 4, 1, 6, 2]))

    def test_closed_sessions_are_told_too(self):
        self.check(*LOTS, (issue(9, 1, 3), row((13, 3))), (close(9), [3]), (recall(13), [1, 9, 3, 0]))

    def test_nobody(self):
        self.check(*LOTS, (recall(13), [0, 0]))

    def test_it_is_never_handed_out_again(self):
        self.check(*LOTS, (recall(13), [0, 0]), (issue(9, 1, 1), [-15]), (reserve(9, 1, 1), [-15]),
                   (receive(13, 1, 1, 5), [-13]), (count(13, 20), [10, 0]), (issue(9, 1, 1), [-15]), (day(3), [0]),
                   (issue(9, 1, 1), [-15]), (sweep(), row((13, 20))))

    def test_a_lot_past_its_last_day(self):
        self.check(*LOTS, (issue(9, 1, 3), row((13, 3))), (reserve(4, 1, 1), row((13, 1))), (day(6), row((4, 13, 1))),
                   (recall(13), [1, 9, 3, 0]), (recall(13), [-13]))

    def test_what_came_back_is_not_told(self):
        self.check(*LOTS, (issue(9, 1, 3), row((13, 3))), (issue(4, 1, 2), row((13, 2))), (unused(9, 13, 3), [0]),
                   (unused(4, 13, 1), [1]), (recall(13), [1, 4, 1, 0]), (unused(4, 13, 1), [0]))

    def test_other_lots_of_the_article_stay(self):
        self.check(*LOTS, (receive(14, 1, 5, 5), [5]), (reserve(9, 1, 12), row((13, 10), (14, 2))),
                   (recall(13), [0, 1, 9, 10]), (issue(4, 1, 3), row((14, 3))), (issue(4, 1, 1), [-15]),
                   (release(9), row((14, 2))), (issue(4, 1, 2), row((14, 2))))

    def test_refusals(self):
        self.check(*LOTS, (recall(10), [-5]), (recall(0), [-1]), (recall(1000000001), [-1]), (recall(13), [0, 0]),
                   (recall(13), [-13]), (recall(1000000000), [-5]))


class BrokenTest(LineCase):
    """What a broken session is refused, and what it isn't."""

    broken = [*LOTS, (issue(9, 2, 2), row((11, 2))), (reserve(9, 1, 3), row((13, 3))), (reserve(9, 3, 4), row((12, 4))),
              (recall(13), [0, 1, 9, 3])]

    def test_refused(self):
        self.check(*self.broken, (take(9), [-16]), (reserve(9, 3, 1), [-16]), (close(9), [-18]), (open_(9), [-3]))

    def test_not_refused(self):
        self.check(*self.broken, (issue(9, 3, 1), row((12, 1))), (unused(9, 11, 1), [1]), (take(9), [-16]),
                   (release(9), row((12, 4))), (take(9), [-17]), (reserve(9, 3, 9), row((12, 9))),
                   (take(9), row((12, 9))))

    def test_the_rest_is_still_held(self):
        self.check(*self.broken, (throw(12, 7), [-15]), (day(9), row((9, 12, 4))), (close(9), [2]))

    def test_broken_twice(self):
        self.check(*self.broken, (recall(12), [0, 1, 9, 4]), (release(9), [0]), (reserve(9, 2, 1), row((11, 1))))

    def test_others_are_not_broken(self):
        self.check(*self.broken, (reserve(4, 3, 1), row((12, 1))), (take(4), row((12, 1))))
