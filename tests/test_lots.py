"""Points 4 and 12 to 14: receive, throw, sweep, count."""

from lotstore.desk import answer_call
from lotstore.store import Store
from tests.audit import audit, snapshot
from tests.lines import (LineCase, article, count, day, granted, issue, open_, recall, receive, received, recipe,
                         release, reserve, row, sweep, take, throw, unused)


class ReceiveTest(LineCase):
    def test_a_new_lot(self):
        store = self.check(*granted(article(1)), (day(3), [0]), (receive(10, 1, 7, 9), [7]), (throw(10, 7), [0]))
        lot = store.lots[10]
        self.assertEqual((lot.article, lot.last_day, lot.first_day, lot.received), (1, 9, 3, 7))

    def test_more_of_a_known_lot(self):
        store = self.check(*granted(article(1)), (receive(10, 1, 7, 9), [7]), (day(2), [0]),
                           (receive(10, 1, 5, 9), [12]), (throw(10, 2), [10]), (receive(10, 1, 1, 9), [13]),
                           (throw(10, 11), [0]))
        self.assertEqual(store.lots[10].first_day, 0)

    def test_edges_of_the_ranges(self):
        self.check(*granted(article(1), article(1000000)),
                   (receive(1, 1, 1, 0), [1]), (receive(1000000000, 1000000, 1000000, 1000000), [1000000]),
                   (receive(0, 1, 1, 0), [-1]), (receive(1000000001, 1, 1, 0), [-1]), (receive(2, 0, 1, 0), [-1]),
                   (receive(2, 1000001, 1, 0), [-1]), (receive(2, 1, 0, 0), [-1]), (receive(2, 1, 1000001, 0), [-1]),
                   (receive(2, 1, 1, -1), [-1]), (receive(2, 1, 1, 1000001), [-1]))

    def test_the_article(self):
        self.check(*granted(article(1), article(2), recipe(2, 1, 1)), (receive(10, 2, 1, 9), [-9]),
                   (receive(10, 3, 1, 9), [-4]), (receive(10, 1, 1, 9), [1]))

    def test_told_otherwise(self):
        self.check(*granted(article(1), article(2)), (receive(10, 1, 1, 9), [1]), (receive(10, 2, 1, 9), [-12]),
                   (receive(10, 1, 1, 8), [-12]), (receive(10, 1, 1, 10), [-12]), (receive(10, 2, 1, 8), [-12]),
                   (receive(10, 1, 1, 9), [2]))

    def test_called_back(self):
        self.check(*granted(article(1)), (receive(10, 1, 1, 9), [1]), (recall(10), [0, 0]),
                   (receive(10, 1, 1, 9), [-13]), (receive(11, 1, 1, 9), [1]))

    def test_past_its_last_day(self):
        self.check(*granted(article(1)), (receive(10, 1, 1, 9), [1]), (day(9), [0]), (receive(10, 1, 1, 9), [2]),
                   (receive(11, 1, 1, 9), [1]), (receive(12, 1, 1, 8), [-14]), (day(10), [0]),
                   (receive(10, 1, 1, 9), [-14]), (receive(13, 1, 1, 9), [-14]), (receive(13, 1, 1, 10), [1]))

    def test_256_lots(self):
        lots = received(*[receive(l, 1, 1, 9) for l in range(1, 257)])
        store = self.check(*granted(article(1), article(2)), *lots, (receive(257, 1, 1, 9), [-8]),
                           (receive(256, 1, 1, 9), [2]), (receive(1, 1, 1, 9), [2]), (recall(5), [0, 0]),
                           (sweep(), row((5, 1))), (receive(257, 2, 1, 9), [-8]), (day(10), [0]),
                           (receive(257, 1, 1, 9), [-14]), (receive(257, 3, 1, 9), [-4]), (receive(257, 1, 0, 9), [-1]),
                           (receive(257, 1, 1, 10), [-8]))
        self.assertEqual(len(store.lots), 256)

    def test_the_first_refusal_is_told(self):
        self.check(*granted(article(1), article(2), article(3), recipe(3, 2, 1)), (receive(10, 1, 1, 9), [1]),
                   (receive(10, 4, 1, 8), [-4]), (receive(10, 3, 1, 8), [-9]), (receive(10, 3, 0, 9), [-1]),
                   (recall(10), [0, 0]), (receive(10, 2, 1, 9), [-12]), (receive(10, 1, 1, 8), [-12]),
                   (receive(10, 3, 1, 9), [-9]), (day(10), [0]), (receive(10, 1, 1, 9), [-13]),
                   (receive(10, 1, 1, 8), [-12]), (receive(10, 2, 1, 9), [-12]), (receive(10, 4, 1, 9), [-4]),
                   (receive(11, 4, 1, 9), [-4]), (receive(11, 3, 1, 9), [-9]), (receive(11, 1, 1, 9), [-14]))

    def full_lot(self):
        """A store whose lot 10 has received 1000000000: more calls than one line has."""
        store = Store()
        answer_call(store, article(1))
        answer_call(store, article(2))
        for times in range(1, 1001):
            self.assertEqual(answer_call(store, receive(10, 1, 1000000, 9)), [times * 1000000])
        audit(self, store)
        return store

    def test_a_thousand_million_received(self):
        store = self.full_lot()
        before = snapshot(store)
        self.assertEqual(answer_call(store, receive(10, 1, 1, 9)), [-8])
        self.assertEqual(answer_call(store, throw(10, 1000000000, 1)), [0])
        self.assertEqual(answer_call(store, receive(10, 1, 1, 9)), [-8])
        self.assertNotEqual(snapshot(store), before)
        self.assertEqual(answer_call(store, receive(11, 1, 1000000, 9)), [1000000])

    def test_just_up_to_the_limit(self):
        store = self.full_lot()
        lot = store.lots[10]
        lot.received -= 5
        lot.free -= 5
        self.assertEqual(answer_call(store, receive(10, 1, 6, 9)), [-8])
        self.assertEqual(answer_call(store, receive(10, 1, 5, 9)), [1000000000])

    def test_full_comes_last(self):
        store = self.full_lot()
        self.assertEqual(answer_call(store, receive(10, 2, 1, 9)), [-12])
        answer_call(store, day(10))
        self.assertEqual(answer_call(store, receive(10, 1, 1, 9)), [-14])
        answer_call(store, recall(10))
        self.assertEqual(answer_call(store, receive(10, 1, 1, 9)), [-13])


class ThrowTest(LineCase):
    known = [*granted(article(1), open_(5)), *received(receive(10, 1, 20, 9), receive(11, 1, 3, 9))]

    def test_free_ones_are_thrown_away(self):
        store = self.check(*self.known, (throw(10, 4, 2), [16]), (throw(11, 3, 9), [0]), (throw(10, 1, 2), [15]),
                           (issue(5, 1, 16), [-15]), (issue(5, 1, 15), row((10, 15))))
        self.assertEqual(store.thrown_for[1:], [0, 5, 0, 0, 0, 0, 0, 0, 3])
        self.assertEqual(store.lots[10].thrown, 5)

    def test_what_is_held_or_used_is_not_free(self):
        self.check(*self.known, (issue(5, 1, 5), row((10, 5))), (reserve(5, 1, 6), row((10, 6))),
                   (throw(10, 10), [-15]), (throw(10, 9), [0]), (throw(10, 1), [-15]), (release(5), row((10, 6))),
                   (throw(10, 7), [-15]), (throw(10, 6), [0]))

    def test_lots_that_are_not_good(self):
        self.check(*self.known, (recall(10), [0, 0]), (throw(10, 1), [19]), (day(10), [0]), (throw(11, 1), [2]))

    def test_refusals(self):
        self.check(*self.known, (throw(12, 1), [-5]), (throw(12, 1000000000000000), [-5]), (throw(12, 0), [-1]),
                   (throw(10, 21), [-15]), (throw(10, 1000000000000000), [-15]), (throw(10, 1000000000000001), [-1]),
                   (throw(10, 21, 0), [-1]), (throw(10, 21, 10), [-1]), (throw(10, 0), [-1]), (throw(10, 20), [0]))

    def test_each_reason(self):
        steps = [(throw(10, 1 + w, w), [20 - sum(range(2, 2 + w))]) for w in range(1, 5)]
        store = self.check(*self.known, *steps)
        self.assertEqual(store.thrown_for[1:], [2, 3, 4, 5, 0, 0, 0, 0, 0])
        store = self.check(*self.known, *[(throw(10, 1, w), [20 - w]) for w in range(1, 10)])
        self.assertEqual(store.thrown_for[1:], [1] * 9)


class SweepTest(LineCase):
    known = [*granted(article(1), article(2), open_(5)),
             *received(receive(13, 1, 10, 4), receive(11, 2, 20, 9), receive(12, 1, 30, 3), receive(10, 2, 40, 5))]

    def test_what_is_not_good_is_thrown_away(self):
        store = self.check(*self.known, (sweep(3), [0]), (day(4), [0]), (sweep(3), row((12, 30))), (sweep(3), [0]),
                           (recall(11), [0, 0]), (day(5), [0]), (sweep(9), row((13, 10), (11, 20))), (sweep(3), [0]),
                           (throw(11, 1), [-15]), (throw(10, 40, 1), [0]), (day(6), [0]), (sweep(1), [0]))
        self.assertEqual(store.thrown_for[1:], [40, 0, 30, 0, 0, 0, 0, 0, 30])
        self.assertEqual([lot.thrown for lot in store.lots.values()], [10, 20, 30, 40])

    def test_only_what_is_free(self):
        self.check(*self.known, (issue(5, 1, 33), row((12, 30), (13, 3))), (reserve(5, 1, 2), row((13, 2))),
                   (day(5), row((5, 13, 2))), (sweep(), row((13, 7))), (unused(5, 12, 8), [22]),
                   (sweep(), row((12, 8))))

    def test_what_is_held_of_a_good_lot_stays(self):
        self.check(*self.known, (reserve(5, 1, 40), row((12, 30), (13, 10))), (sweep(), [0]),
                   (take(5), row((13, 10), (12, 30))))

    def test_refusals(self):
        self.check(*self.known, (day(100), [0]), (sweep(0), [-1]), (sweep(10), [-1]), (sweep(-1), [-1]),
                   (sweep(1), row((13, 10), (11, 20), (12, 30), (10, 40))))

    def test_an_empty_store(self):
        self.check((sweep(1), [0]), (sweep(9), [0]))


class CountTest(LineCase):
    known = [*granted(article(1), open_(5)), *received(receive(10, 1, 20, 9))]

    def test_more_and_less_and_the_same(self):
        store = self.check(*self.known, (count(10, 25), [5, 0]), (count(10, 22), [0, 3]), (count(10, 22), [0, 0]),
                           (throw(10, 23), [-15]), (throw(10, 22), [0]), (count(10, 0), [0, 0]), (count(10, 1), [1, 0]),
                           (issue(5, 1, 1), row((10, 1))))
        lot = store.lots[10]
        self.assertEqual((lot.received, lot.gained, lot.lost), (20, 6, 3))

    def test_held_ones_are_among_them(self):
        self.check(*self.known, (reserve(5, 1, 8), row((10, 8))), (count(10, 20), [0, 0]), (count(10, 7), [-18]),
                   (count(10, 8), [0, 12]), (throw(10, 1), [-15]), (count(10, 11), [3, 0]), (throw(10, 3), [0]),
                   (take(5), row((10, 8))), (count(10, 0), [0, 0]))

    def test_all_sessions_together(self):
        self.check(*self.known, *granted(open_(6)), (reserve(5, 1, 8), row((10, 8))), (reserve(6, 1, 5), row((10, 5))),
                   (count(10, 12), [-18]), (count(10, 13), [0, 7]), (release(5), row((10, 8))), (count(10, 5), [0, 8]))

    def test_lots_that_are_not_good(self):
        self.check(*self.known, (day(10), [0]), (count(10, 21), [1, 0]), (recall(10), [0, 0]),
                   (count(10, 3), [0, 18]), (sweep(), row((10, 3))))

    def test_edges_of_the_ranges(self):
        self.check(*self.known, (count(10, 1000000000), [999999980, 0]), (count(10, 0), [0, 1000000000]),
                   (count(10, 1000000001), [-1]), (count(10, -1), [-1]), (count(11, -1), [-1]), (count(11, 0), [-5]),
                   (count(0, 5), [-1]))

    def store_that_gained(self, gained):
        """A store whose lot 10 has gained so many and lost as many: no line is long enough for it."""
        store = self.check(*self.known, (reserve(5, 1, 3), row((10, 3))))
        lot = store.lots[10]
        lot.gained += gained
        lot.lost += gained
        audit(self, store)
        return store

    def test_the_greatest_gain(self):
        store = self.store_that_gained(999999999999995)
        before = snapshot(store)
        self.assertEqual(answer_call(store, count(10, 26)), [-8])
        self.assertEqual(answer_call(store, count(10, 1000000000)), [-8])
        self.assertEqual(answer_call(store, count(10, 2)), [-18])
        self.assertEqual(snapshot(store), before)
        self.assertEqual(answer_call(store, count(10, 25)), [5, 0])
        self.assertEqual(store.lots[10].gained, 1000000000000000)
        self.assertEqual(answer_call(store, count(10, 26)), [-8])
        self.assertEqual(answer_call(store, count(10, 25)), [0, 0])
        self.assertEqual(answer_call(store, count(10, 24)), [0, 1])
        self.assertEqual(answer_call(store, count(10, 25)), [-8])
        self.assertEqual(answer_call(store, count(10, 3)), [0, 21])
        audit(self, store)
