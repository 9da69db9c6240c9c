"""Points 20 to 22, 27 and 29: shelf, lot, who, soon, reasons."""

from tests.lines import (LineCase, article, close, count, day, granted, issue, lot, open_, reasons, recall, recallof,
                         receive, received, recipe, release, reserve, row, shelf, soon, sweep, take, throw, unused, who)

STOCK = [*granted(article(1), article(2), article(3), recipe(3, 2, 1), open_(9), open_(4), open_(6)), (day(2), [0]),
         *received(receive(12, 1, 50, 8), receive(11, 1, 30, 6), receive(20, 2, 40, 7))]


class ShelfTest(LineCase):
    def test_what_is_there_free_held_used(self):
        self.check(*STOCK, (shelf(1), [80, 80, 0, 0]), (issue(9, 1, 35), row((11, 30), (12, 5))),
                   (shelf(1), [45, 45, 0, 35]),
                   (reserve(4, 1, 8), row((12, 8))), (reserve(6, 1, 2), row((12, 2))), (shelf(1), [35, 35, 10, 35]),
                   (take(4), row((12, 8))), (shelf(1), [35, 35, 2, 43]), (release(6), row((12, 2))),
                   (shelf(1), [37, 37, 0, 43]), (unused(9, 11, 10), [20]), (shelf(1), [47, 47, 0, 33]),
                   (unused(9, 11, 20), [0]), (unused(9, 12, 5), [0]), (unused(4, 12, 8), [0]),
                   (shelf(1), [80, 80, 0, 0]),
                   (shelf(2), [40, 40, 0, 0]))

    def test_lots_that_are_not_good(self):
        self.check(*STOCK, (issue(9, 1, 4), row((11, 4))), (day(6), [0]), (shelf(1), [76, 76, 0, 4]), (day(7), [0]),
                   (shelf(1), [50, 76, 0, 4]), (recall(12), [0, 0]), (shelf(1), [0, 76, 0, 4]),
                   (unused(9, 11, 3), [1]), (shelf(1), [0, 79, 0, 1]), (sweep(), row((12, 50), (11, 29))),
                   (shelf(1), [0, 0, 0, 1]), (shelf(2), [40, 40, 0, 0]))

    def test_what_is_dropped_is_free_again(self):
        self.check(*STOCK, (reserve(9, 1, 40), row((11, 30), (12, 10))), (shelf(1), [40, 40, 40, 0]),
                   (day(7), row((9, 11, 30))), (shelf(1), [40, 70, 10, 0]), (recall(12), [0, 1, 9, 10]),
                   (shelf(1), [0, 80, 0, 0]))

    def test_throw_and_count(self):
        self.check(*STOCK, (reserve(9, 1, 5), row((11, 5))), (throw(11, 10), [15]), (shelf(1), [65, 65, 5, 0]),
                   (count(11, 35), [15, 0]), (shelf(1), [80, 80, 5, 0]), (count(11, 5), [0, 30]),
                   (shelf(1), [50, 50, 5, 0]),
                   (count(12, 0), [0, 50]), (shelf(1), [0, 0, 5, 0]))

    def test_closed_sessions_used_it_still(self):
        self.check(*STOCK, (issue(9, 1, 5), row((11, 5))), (close(9), [5]), (shelf(1), [75, 75, 0, 5]))

    def test_no_lots(self):
        self.check(*granted(article(5, 7)), (shelf(5), [0, 0, 0, 0]))

    def test_refusals(self):
        self.check(*STOCK, (shelf(4), [-4]), (shelf(3), [-9]), (shelf(0), [-1]), (shelf(1000001), [-1]),
                   (shelf(1000000), [-4]), (recipe(3), [0]), (shelf(3), [0, 0, 0, 0]))


class LotTest(LineCase):
    def test_a_new_lot(self):
        self.check(*STOCK, (lot(12), [1, 8, 2, 50, 0, 50, 0, 0, 0, 0, 0]),
                   (lot(20), [2, 7, 2, 40, 0, 40, 0, 0, 0, 0, 0]))

    def test_more_of_it_on_another_day(self):
        self.check(*STOCK, (day(4), [0]), (receive(12, 1, 3, 8), [53]), (lot(12), [1, 8, 2, 53, 0, 53, 0, 0, 0, 0, 0]))

    def test_all_its_counts(self):
        self.check(*STOCK, (issue(9, 1, 3), row((11, 3))), (issue(4, 1, 2), row((11, 2))),
                   (reserve(9, 1, 4), row((11, 4))), (reserve(6, 1, 6), row((11, 6))),
                   (lot(11), [1, 6, 2, 30, 0, 15, 10, 5, 0, 0, 0]), (throw(11, 1, 5), [14]),
                   (lot(11), [1, 6, 2, 30, 0, 14, 10, 5, 1, 0, 0]), (count(11, 31), [7, 0]),
                   (lot(11), [1, 6, 2, 30, 7, 21, 10, 5, 1, 0, 0]), (count(11, 29), [0, 2]),
                   (lot(11), [1, 6, 2, 30, 7, 19, 10, 5, 1, 2, 0]), (take(6), row((11, 6))),
                   (lot(11), [1, 6, 2, 30, 7, 19, 4, 11, 1, 2, 0]), (release(9), row((11, 4))),
                   (lot(11), [1, 6, 2, 30, 7, 23, 0, 11, 1, 2, 0]), (unused(6, 11, 6), [0]),
                   (lot(11), [1, 6, 2, 30, 7, 29, 0, 5, 1, 2, 0]), (recall(11), [2, 4, 2, 9, 3, 0]),
                   (lot(11), [1, 6, 2, 30, 7, 29, 0, 5, 1, 2, 1]), (sweep(5), row((11, 29))),
                   (lot(11), [1, 6, 2, 30, 7, 0, 0, 5, 30, 2, 1]), (lot(12), [1, 8, 2, 50, 0, 50, 0, 0, 0, 0, 0]))

    def test_the_day_goes_on(self):
        self.check(*STOCK, (reserve(9, 1, 4), row((11, 4))), (day(6), [0]),
                   (lot(11), [1, 6, 2, 30, 0, 26, 4, 0, 0, 0, 0]),
                   (day(7), row((9, 11, 4))), (lot(11), [1, 6, 2, 30, 0, 30, 0, 0, 0, 0, 0]))

    def test_greatest_counts(self):
        self.check(*granted(article(1000000)), (day(1000000), [0]),
                   *received(receive(1000000000, 1000000, 1000000, 1000000)),
                   (count(1000000000, 1000000000), [999000000, 0]),
                   (lot(1000000000), [1000000, 1000000, 1000000, 1000000, 999000000, 1000000000, 0, 0, 0, 0, 0]),
                   (count(1000000000, 0), [0, 1000000000]),
                   (lot(1000000000), [1000000, 1000000, 1000000, 1000000, 999000000, 0, 0, 0, 0, 1000000000, 0]))

    def test_refusals(self):
        self.check(*STOCK, (lot(13), [-5]), (lot(0), [-1]), (lot(1000000001), [-1]), (lot(1000000000), [-5]))


class WhoTest(LineCase):
    def test_the_smaller_session_first(self):
        self.check(*STOCK, (who(11), [0]), (issue(9, 1, 3), row((11, 3))), (issue(4, 1, 2), row((11, 2))),
                   (issue(6, 1, 30), row((11, 25), (12, 5))), (who(11), row((4, 2), (6, 25), (9, 3))),
                   (who(12), row((6, 5))), (who(20), [0]))

    def test_issued_twice_is_told_once(self):
        self.check(*STOCK, (issue(9, 1, 3), row((11, 3))), (issue(9, 1, 2), row((11, 2))), (who(11), row((9, 5))))

    def test_what_is_held_is_not_told_until_it_is_taken(self):
        self.check(*STOCK, (reserve(9, 1, 3), row((11, 3))), (who(11), [0]), (take(9), row((11, 3))),
                   (who(11), row((9, 3))),
                   (reserve(4, 1, 3), row((11, 3))), (release(4), row((11, 3))), (who(11), row((9, 3))))

    def test_what_came_back_is_not_told(self):
        self.check(*STOCK, (issue(9, 1, 3), row((11, 3))), (issue(4, 1, 2), row((11, 2))), (unused(9, 11, 2), [1]),
                   (who(11), row((4, 2), (9, 1))), (unused(9, 11, 1), [0]), (who(11), row((4, 2))),
                   (unused(4, 11, 2), [0]), (who(11), [0]))

    def test_closed_sessions_are_told(self):
        self.check(*STOCK, (issue(9, 1, 3), row((11, 3))), (close(9), [3]), (who(11), row((9, 3))))

    def test_lots_that_are_not_good(self):
        self.check(*STOCK, (issue(9, 1, 3), row((11, 3))), (issue(4, 2, 2), row((20, 2))), (day(7), [0]),
                   (recall(20), [1, 4, 2, 0]), (who(11), row((9, 3))), (who(20), row((4, 2))),
                   (sweep(), row((11, 27), (20, 38))),
                   (who(11), row((9, 3))), (unused(4, 20, 2), [0]), (who(20), [0]))

    def test_broken_sessions_are_told(self):
        self.check(*STOCK, (issue(9, 1, 3), row((11, 3))), (reserve(9, 1, 1), row((11, 1))),
                   (recall(11), [1, 9, 3, 1, 9, 1]), (who(11), row((9, 3))))

    def test_as_recall_tells_it(self):
        self.check(*STOCK, (issue(9, 1, 3), row((11, 3))), (issue(6, 1, 4), row((11, 4))), (unused(9, 11, 1), [2]),
                   (who(11), [2, 6, 4, 9, 2]), (recall(11), [2, 6, 4, 9, 2, 0]), (who(11), [2, 6, 4, 9, 2]))

    def test_128_sessions(self):
        sessions = range(128, 0, -1)
        self.check(*granted(article(1), *[open_(k) for k in sessions]), *received(receive(11, 1, 1000, 9)),
                   *[(issue(k, 1, 1 + k % 3), row((11, 1 + k % 3))) for k in sessions],
                   (who(11), row(*[(k, 1 + k % 3) for k in range(1, 129)])))

    def test_refusals(self):
        self.check(*STOCK, (who(13), [-5]), (who(0), [-1]), (who(1000000001), [-1]), (who(1000000000), [-5]))


class SoonTest(LineCase):
    def test_the_smaller_last_day_first(self):
        self.check(*STOCK, (soon(10), row((11, 6, 30), (20, 7, 40), (12, 8, 50))),
                   (soon(5), row((11, 6, 30), (20, 7, 40))))

    def test_the_day_and_d_together(self):
        self.check(*STOCK, (soon(3), [0]), (soon(4), row((11, 6, 30))), (soon(0), [0]), (day(5), [0]), (soon(0), [0]),
                   (soon(1), row((11, 6, 30))), (day(6), [0]), (soon(0), row((11, 6, 30))),
                   (soon(1), row((11, 6, 30), (20, 7, 40))), (day(7), [0]), (soon(0), row((20, 7, 40))))

    def test_the_same_last_day_twice(self):
        self.check(*STOCK, *received(receive(5, 1, 2, 7), receive(30, 2, 3, 6), receive(1, 1, 4, 6)),
                   (soon(5), row((11, 6, 30), (30, 6, 3), (1, 6, 4), (20, 7, 40), (5, 7, 2))))

    def test_a_free_count_of_0(self):
        self.check(*STOCK, (throw(11, 29), [1]), (soon(4), row((11, 6, 1))), (reserve(9, 1, 1), row((11, 1))),
                   (soon(4), [0]),
                   (release(9), row((11, 1))), (soon(4), row((11, 6, 1))), (issue(9, 1, 1), row((11, 1))),
                   (soon(4), [0]),
                   (unused(9, 11, 1), [0]), (soon(4), row((11, 6, 1))), (count(11, 0), [0, 1]), (soon(4), [0]))

    def test_lots_that_are_not_good(self):
        self.check(*STOCK, (recall(20), [0, 0]), (soon(10), row((11, 6, 30), (12, 8, 50))), (day(7), [0]),
                   (soon(10), row((12, 8, 50))), (day(9), [0]), (soon(1000000), [0]))

    def test_d_at_a_million(self):
        self.check(*granted(article(1)), *received(receive(10, 1, 5, 1000000), receive(11, 1, 5, 999999)),
                   (soon(1000000), row((11, 999999, 5), (10, 1000000, 5))), (soon(999999), row((11, 999999, 5))),
                   (day(1), [0]), (soon(999999), row((11, 999999, 5), (10, 1000000, 5))),
                   (soon(999998), row((11, 999999, 5))),
                   (day(1000000), [0]), (soon(0), row((10, 1000000, 5))), (soon(1000000), row((10, 1000000, 5))))

    def test_256_lots(self):
        lots = [receive(l, 1, l, l // 2) for l in range(256, 0, -1)]
        told = sorted([(l, l // 2, l) for l in range(256, 0, -1)], key=lambda three: three[1])
        self.check(*granted(article(1)), *received(*lots), (soon(1000), row(*told)))

    def test_refusals(self):
        self.check(*STOCK, (soon(-1), [-1]), (soon(1000001), [-1]))

    def test_an_empty_store(self):
        self.check((soon(0), [0]), (soon(1000000), [0]))


class ReasonsTest(LineCase):
    def test_nothing_thrown_away(self):
        self.check((reasons(), [0] * 9), *STOCK, (reasons(), [0] * 9), (count(11, 0), [0, 30]), (reasons(), [0] * 9))

    def test_throw_by_all_nine(self):
        steps = [(throw(12, w, w), [50 - w * (w + 1) // 2]) for w in range(1, 10)]
        self.check(*STOCK, *steps, (reasons(), [1, 2, 3, 4, 5, 6, 7, 8, 9]), (throw(11, 10, 5), [20]),
                   (reasons(), [1, 2, 3, 4, 15, 6, 7, 8, 9]))

    def test_sweep_by_all_nine(self):
        lots = received(*[receive(100 + w, 1, w, 10 + w) for w in range(1, 10)])
        steps = [step for w in range(1, 10) for step in ((day(11 + w), [0]), (sweep(w), row((100 + w, w))))]
        self.check(*granted(article(1)), *lots, *steps, (reasons(), [1, 2, 3, 4, 5, 6, 7, 8, 9]))

    def test_throw_and_sweep_together(self):
        self.check(*STOCK, (throw(11, 4, 9), [26]), (throw(20, 1, 9), [39]), (day(7), [0]), (sweep(9), row((11, 26))),
                   (reasons(), [0, 0, 0, 0, 0, 0, 0, 0, 31]), (recallof(1), [2, 12, 11]), (recall(20), [0, 0]),
                   (sweep(1), row((12, 50), (20, 39))), (reasons(), [89, 0, 0, 0, 0, 0, 0, 0, 31]))

    def test_what_is_refused_is_not_added(self):
        self.check(*STOCK, (throw(11, 31, 3), [-15]), (throw(13, 1, 3), [-5]), (throw(11, 1, 10), [-1]),
                   (sweep(0), [-1]),
                   (sweep(3), [0]), (reasons(), [0] * 9))

    def test_nothing_comes_back(self):
        self.check(*STOCK, (throw(11, 30, 2), [0]), (count(11, 30), [30, 0]), (recall(11), [0, 0]),
                   (reasons(), [0, 30, 0, 0, 0, 0, 0, 0, 0]), (sweep(2), row((11, 30))),
                   (reasons(), [0, 60, 0, 0, 0, 0, 0, 0, 0]))
