"""Point 16: recallof."""

from tests.lines import (LineCase, article, close, count, day, granted, held, issue, lot, open_, recall, recallof,
                         receive,
                         received, recipe, release, reserve, row, shelf, soon, sweep, take, throw, unused, who)

# Lots of article 1 that first came on the days 0, 2, 2, 5 and 7, and one of article 2.
LOTS = [*granted(article(1), article(2), article(3), recipe(3, 2, 1), open_(9), open_(4), open_(6)),
        *received(receive(15, 1, 10, 20)), (day(2), [0]),
        *received(receive(13, 1, 10, 30), receive(23, 2, 10, 30), receive(16, 1, 10, 30)), (day(5), [0]),
        *received(receive(14, 1, 10, 9)), (day(7), [0]), *received(receive(12, 1, 10, 40))]


class RecallofTest(LineCase):
    def test_both_days_are_counted_in(self):
        self.check(*LOTS, (recallof(1, 2, 5), [3, 13, 16, 14]), (shelf(1), [20, 50, 0, 0]),
                   (issue(9, 1, 20), row((15, 10), (12, 10))), (issue(9, 1, 1), [-15]))

    def test_ahead_of_the_first_and_behind_the_last(self):
        for d, e, called in ((0, 1, [15]), (1, 1, []), (1, 2, [13, 16]), (2, 4, [13, 16]), (3, 4, []), (3, 6, [14]),
                             (6, 6, []), (6, 7, [12]), (8, 1000000, []), (0, 6, [15, 13, 16, 14]), (5, 7, [14, 12])):
            rest = [number for number in (15, 13, 16, 14, 12) if number not in called]
            marks = [1 if number in called else 0 for number in (15, 13, 16, 14, 12)]
            store = self.check(*LOTS, (recallof(1, d, e), [len(called), *called]),
                               (recallof(1, 0, 1000000), [len(rest), *rest]))
            self.assertEqual(len(store.lots), 6)
            told = self.check(*LOTS, (recallof(1, d, e), [len(called), *called])).lots
            self.assertEqual([int(told[number].called_back) for number in (15, 13, 16, 14, 12)], marks)

    def test_one_day(self):
        self.check(*LOTS, (recallof(1, 5, 5), [1, 14]), (recallof(1, 0, 0), [1, 15]), (recallof(1, 2, 2), [2, 13, 16]),
                   (recallof(1, 7, 7), [1, 12]), (recallof(1, 7, 7), [0]))

    def test_in_the_order_in_which_they_first_came(self):
        self.check(*LOTS, (recallof(1), [5, 15, 13, 16, 14, 12]))

    def test_what_came_later_of_a_known_lot_is_no_matter(self):
        self.check(*LOTS, (receive(15, 1, 5, 20), [15]), (recallof(1, 1, 7), [4, 13, 16, 14, 12]),
                   (issue(9, 1, 15), row((15, 15))), (recallof(1, 0, 0), [1, 15]))

    def test_lots_that_are_called_back_already(self):
        self.check(*LOTS, (recall(13), [0, 0]), (recallof(1, 2, 5), [2, 16, 14]), (recallof(1, 2, 5), [0]),
                   (recallof(1), [2, 15, 12]), (recallof(1), [0]), (recall(12), [-13]))

    def test_lots_past_their_last_day(self):
        self.check(*LOTS, (day(31), [0]), (lot(14), [1, 9, 5, 10, 0, 10, 0, 0, 0, 0, 0]),
                   (recallof(1, 0, 5), [4, 15, 13, 16, 14]),
                   (lot(14), [1, 9, 5, 10, 0, 10, 0, 0, 0, 0, 1]), (recall(14), [-13]),
                   (soon(1000000), row((12, 40, 10))))

    def test_empty_lots(self):
        self.check(*LOTS, (throw(14, 10), [0]), (recallof(1, 5, 5), [1, 14]), (count(14, 3), [3, 0]),
                   (sweep(), row((14, 3))))

    def test_what_is_held_is_dropped(self):
        held_for_three = [(reserve(9, 1, 12), row((14, 10), (15, 2))), (reserve(4, 1, 3), row((15, 3))),
                          (reserve(6, 1, 6), row((15, 5), (13, 1))), (reserve(6, 2, 4), row((23, 4)))]
        self.check(*LOTS, *held_for_three, (recallof(1, 0, 0), [1, 15]), (held(9), [0, 1, *row((14, 10))]),
                   (held(4), [0, 1, 0]), (held(6), [0, 1, *row((13, 1), (23, 4))]),
                   (lot(15), [1, 20, 0, 10, 0, 10, 0, 0, 0, 0, 1]), (lot(14), [1, 9, 5, 10, 0, 0, 10, 0, 0, 0, 0]),
                   (lot(13), [1, 30, 2, 10, 0, 9, 1, 0, 0, 0, 0]), (lot(23), [2, 30, 2, 10, 0, 6, 4, 0, 0, 0, 0]),
                   (take(9), [-16]), (reserve(4, 2, 1), [-16]), (release(6), row((13, 1), (23, 4))),
                   (held(6), [0, 0, 0]))
        self.check(*LOTS, *held_for_three, (recallof(1, 2, 2), [2, 13, 16]), (held(9), [0, 0, *row((15, 2), (14, 10))]),
                   (held(4), [0, 0, *row((15, 3))]), (held(6), [0, 1, *row((15, 5), (23, 4))]))

    def test_only_those_for_which_something_was_held_are_broken(self):
        self.check(*LOTS, (issue(9, 1, 3), row((14, 3))), (reserve(4, 2, 1), row((23, 1))),
                   (reserve(6, 1, 1), row((14, 1))),
                   (recallof(1), [5, 15, 13, 16, 14, 12]), (held(9), [0, 0, 0]), (held(4), [0, 0, *row((23, 1))]),
                   (held(6), [0, 1, 0]))

    def test_what_was_used_stays_used(self):
        self.check(*LOTS, (issue(9, 1, 3), row((14, 3))), (issue(4, 1, 1), row((14, 1))), (close(4), [1]),
                   (recallof(1, 5, 5), [1, 14]), (who(14), row((4, 1), (9, 3))), (held(4), [1, 0, 0]),
                   (unused(9, 14, 2), [1]), (lot(14), [1, 9, 5, 10, 0, 8, 0, 2, 0, 0, 1]))

    def test_they_are_never_handed_out_again(self):
        self.check(*LOTS, (recallof(1), [5, 15, 13, 16, 14, 12]), (issue(9, 1, 1), [-15]), (reserve(9, 1, 1), [-15]),
                   (receive(15, 1, 1, 20), [-13]), (receive(17, 1, 4, 20), [4]), (issue(9, 1, 4), row((17, 4))),
                   (recallof(1), [1, 17]))

    def test_lots_of_other_articles_stay(self):
        self.check(*LOTS, (recallof(1), [5, 15, 13, 16, 14, 12]), (issue(9, 2, 10), row((23, 10))),
                   (recallof(2), [1, 23]))

    def test_none_at_all(self):
        self.check(*granted(article(1)), (recallof(1), [0]), (recallof(1, 0, 0), [0]))
        self.check(*granted(article(1), article(2), recipe(1, 2, 1), recipe(1)), (recallof(1), [0]))

    def test_lots_at_the_edges_of_all_days(self):
        self.check(*granted(article(1)), *received(receive(10, 1, 1, 0)), (day(1000000), [0]),
                   *received(receive(11, 1, 1, 1000000)), (recallof(1, 1, 999999), [0]),
                   (recallof(1, 1000000, 1000000), [1, 11]), (recallof(1, 0, 0), [1, 10]))

    def test_a_day_of_the_store_is_no_matter(self):
        self.check(*LOTS, (recallof(1, 8, 9), [0]), (day(9), [0]), (recallof(1, 9, 9), [0]),
                   (recallof(1, 8, 1000000), [0]),
                   *received(receive(18, 1, 2, 9)), (recallof(1, 8, 1000000), [1, 18]))

    def test_256_lots(self):
        lots = range(256, 0, -1)
        self.check(*granted(article(1)), *received(*[receive(l, 1, 1, 9) for l in lots]), (recallof(1), [256, *lots]))

    def test_refusals(self):
        self.check(*LOTS, (recallof(4), [-4]), (recallof(3), [-9]), (recallof(0), [-1]), (recallof(1000001), [-1]),
                   (recallof(1, -1, 5), [-1]), (recallof(1, 0, 1000001), [-1]), (recallof(1, 5, 4), [-1]),
                   (recallof(1000000), [-4]), (recallof(1, 5, 5), [1, 14]))

    def test_the_first_refusal_is_told(self):
        self.check(*LOTS, (recallof(4, 5, 4), [-1]), (recallof(3, 5, 4), [-1]), (recallof(3, -1, 4), [-1]),
                   (recallof(4, 0, 1000001), [-1]), (recallof(4, 4, 4), [-4]), (recallof(3, 4, 4), [-9]))
