"""Points 23, 24 and 30: uses, held, cluster."""

from tests.lines import (LineCase, article, close, cluster, count, day, granted, held, issue, open_, recall, recallof,
                         receive, received, recipe, release, reserve, row, sweep, take, throw, unused, uses)

STOCK = [*granted(article(1), article(2), article(3), recipe(3, 2, 1, 1, 2), open_(9), open_(4), open_(6)),
         *received(receive(12, 1, 50, 8), receive(11, 1, 30, 6), receive(20, 2, 40, 7))]


class UsesTest(LineCase):
    def test_lots_in_the_order_in_which_they_first_came(self):
        self.check(*STOCK, (uses(9), [0]), (issue(9, 1, 40), row((11, 30), (12, 10))),
                   (uses(9), row((12, 10), (11, 30))),
                   (issue(9, 3, 2), row((12, 4), (20, 2))), (uses(9), row((12, 14), (11, 30), (20, 2))), (uses(4), [0]))

    def test_only_its_own(self):
        self.check(*STOCK, (issue(9, 1, 3), row((11, 3))), (issue(4, 1, 2), row((11, 2))), (uses(9), row((11, 3))),
                   (uses(4), row((11, 2))), (uses(6), [0]))

    def test_what_is_held_is_not_used_until_it_is_taken(self):
        self.check(*STOCK, (reserve(9, 1, 3), row((11, 3))), (uses(9), [0]), (issue(9, 1, 1), row((11, 1))),
                   (uses(9), row((11, 1))), (take(9), row((11, 3))), (uses(9), row((11, 4))),
                   (reserve(9, 1, 3), row((11, 3))),
                   (release(9), row((11, 3))), (uses(9), row((11, 4))))

    def test_what_came_back_is_not_told(self):
        self.check(*STOCK, (issue(9, 1, 32), row((11, 30), (12, 2))), (unused(9, 11, 29), [1]),
                   (uses(9), row((12, 2), (11, 1))),
                   (unused(9, 11, 1), [0]), (uses(9), row((12, 2))), (unused(9, 12, 2), [0]), (uses(9), [0]))

    def test_lots_that_are_not_good(self):
        self.check(*STOCK, (issue(9, 1, 32), row((11, 30), (12, 2))), (issue(9, 2, 1), row((20, 1))), (day(7), [0]),
                   (recall(20), [1, 9, 1, 0]), (uses(9), row((12, 2), (11, 30), (20, 1))), (sweep(), row((20, 39))),
                   (count(11, 5), [5, 0]), (throw(12, 48), [0]), (uses(9), row((12, 2), (11, 30), (20, 1))))

    def test_a_closed_session(self):
        self.check(*STOCK, (issue(9, 1, 3), row((11, 3))), (close(9), [3]), (uses(9), row((11, 3))), (close(4), [0]),
                   (uses(4), [0]))

    def test_a_broken_session(self):
        self.check(*STOCK, (issue(9, 1, 3), row((11, 3))), (reserve(9, 1, 1), row((11, 1))), (day(7), row((9, 11, 1))),
                   (uses(9), row((11, 3))))

    def test_256_lots(self):
        lots = range(256, 0, -1)
        self.check(*granted(article(1), open_(9)), *received(*[receive(l, 1, 2, l) for l in lots]),
                   (issue(9, 1, 511), row(*[(l, 2) for l in range(1, 256)], (256, 1))),
                   (uses(9), row((256, 1), *[(l, 2) for l in lots[1:]])))

    def test_refusals(self):
        self.check(*STOCK, (uses(5), [-6]), (uses(0), [-1]), (uses(1000000001), [-1]), (uses(1000000000), [-6]))


class HeldTest(LineCase):
    def test_lots_in_the_order_in_which_they_first_came(self):
        self.check(*STOCK, (held(9), [0, 0, 0]), (reserve(9, 1, 31), row((11, 30), (12, 1))),
                   (held(9), [0, 0, *row((12, 1), (11, 30))]), (reserve(9, 3, 1), row((12, 2), (20, 1))),
                   (held(9), [0, 0, *row((12, 3), (11, 30), (20, 1))]), (held(4), [0, 0, 0]))

    def test_only_its_own(self):
        self.check(*STOCK, (reserve(9, 1, 3), row((11, 3))), (reserve(4, 1, 2), row((11, 2))),
                   (held(9), [0, 0, 1, 11, 3]),
                   (held(4), [0, 0, 1, 11, 2]), (release(4), row((11, 2))), (held(9), [0, 0, 1, 11, 3]),
                   (held(4), [0, 0, 0]))

    def test_take_and_release(self):
        self.check(*STOCK, (reserve(9, 1, 3), row((11, 3))), (take(9), row((11, 3))), (held(9), [0, 0, 0]),
                   (reserve(9, 1, 4), row((11, 4))), (unused(9, 11, 3), [0]), (held(9), [0, 0, 1, 11, 4]),
                   (release(9), row((11, 4))), (held(9), [0, 0, 0]), (issue(9, 1, 1), row((11, 1))),
                   (held(9), [0, 0, 0]))

    def test_a_closed_session(self):
        self.check(*STOCK, (issue(9, 1, 3), row((11, 3))), (close(9), [3]), (held(9), [1, 0, 0]), (held(4), [0, 0, 0]))

    def test_a_broken_session(self):
        self.check(*STOCK, (reserve(9, 1, 31), row((11, 30), (12, 1))), (day(6), [0]),
                   (held(9), [0, 0, 2, 12, 1, 11, 30]),
                   (day(7), row((9, 11, 30))), (held(9), [0, 1, 1, 12, 1]), (recall(12), [0, 1, 9, 1]),
                   (held(9), [0, 1, 0]),
                   (issue(9, 2, 1), row((20, 1))), (held(9), [0, 1, 0]), (release(9), [0]), (held(9), [0, 0, 0]))

    def test_broken_and_closed(self):
        self.check(*STOCK, (reserve(9, 1, 1), row((11, 1))), (recall(11), [0, 1, 9, 1]), (held(9), [0, 1, 0]),
                   (close(9), [0]), (held(9), [1, 0, 0]))
        self.check(*STOCK, (reserve(9, 1, 1), row((11, 1))), (recallof(1), [2, 12, 11]), (held(9), [0, 1, 0]),
                   (close(9), [0]), (held(9), [1, 0, 0]))

    def test_throw_count_and_sweep_leave_it(self):
        self.check(*STOCK, (reserve(9, 1, 3), row((11, 3))), (throw(11, 27), [0]), (count(11, 4), [1, 0]),
                   (count(11, 3), [0, 1]), (sweep(), [0]), (held(9), [0, 0, 1, 11, 3]))

    def test_refusals(self):
        self.check(*STOCK, (held(5), [-6]), (held(0), [-1]), (held(1000000001), [-1]), (held(1000000000), [-6]))


class ClusterTest(LineCase):
    # One lot for each of the articles 1 to 6, with ten times its number; sessions 71 to 76 in a mixed order.
    lots = [*granted(*[article(a) for a in range(1, 7)], *[open_(k) for k in (74, 71, 76, 73, 75, 72)]),
            *received(*[receive(10 * a, a, 100, 9) for a in (4, 2, 6, 1, 3, 5)])]

    def used(self, *pairs):
        """Steps in which each session uses one of each article."""
        return [(issue(session, each, 1), row((10 * each, 1))) for session, each in pairs]

    def test_alone(self):
        self.check(*self.lots, (cluster(73), [1, 73]), *self.used((73, 1), (73, 2), (71, 3)), (cluster(73), [1, 73]),
                   (cluster(71), [1, 71]), (cluster(72), [1, 72]))

    def test_two_joined(self):
        self.check(*self.lots, *self.used((73, 1), (71, 1), (75, 2)), (cluster(73), [2, 71, 73]),
                   (cluster(71), [2, 71, 73]), (cluster(75), [1, 75]))

    def test_joined_through_several_others(self):
        chain = self.used((74, 1), (72, 1), (72, 2), (76, 2), (76, 3), (71, 3), (71, 4), (73, 4), (75, 5))
        for session in (71, 72, 73, 74, 76):
            self.check(*self.lots, *chain, (cluster(session), [5, 71, 72, 73, 74, 76]), (cluster(75), [1, 75]))

    def test_two_clusters_become_one(self):
        self.check(*self.lots, *self.used((71, 1), (72, 1), (73, 2), (74, 2)), (cluster(71), [2, 71, 72]),
                   (cluster(74), [2, 73, 74]), *self.used((72, 3), (73, 3)), (cluster(71), [4, 71, 72, 73, 74]),
                   (cluster(74), [4, 71, 72, 73, 74]))

    def test_a_ring_and_a_star(self):
        self.check(*self.lots, *self.used((71, 1), (72, 1), (72, 2), (73, 2), (73, 3), (71, 3)),
                   (cluster(72), [3, 71, 72, 73]))
        self.check(*self.lots, *self.used((71, 1), (71, 2), (71, 3), (72, 1), (73, 2), (74, 3)),
                   (cluster(74), [4, 71, 72, 73, 74]), (cluster(71), [4, 71, 72, 73, 74]))

    def test_the_same_article_is_not_the_same_lot(self):
        self.check(*self.lots, (receive(11, 1, 100, 8), [100]), (issue(71, 1, 100), row((11, 100))),
                   (issue(72, 1, 1), row((10, 1))), (cluster(71), [1, 71]), (issue(71, 1, 1), row((10, 1))),
                   (cluster(71), [2, 71, 72]))

    def test_what_is_held_does_not_join(self):
        self.check(*self.lots, *self.used((71, 1)), (reserve(72, 1, 1), row((10, 1))), (cluster(71), [1, 71]),
                   (cluster(72), [1, 72]), (take(72), row((10, 1))), (cluster(71), [2, 71, 72]))

    def test_a_join_that_unused_took_away(self):
        self.check(*self.lots, (issue(72, 1, 2), row((10, 2))), *self.used((71, 1), (72, 2), (73, 2)),
                   (cluster(71), [3, 71, 72, 73]), (unused(72, 10, 1), [1]), (cluster(71), [3, 71, 72, 73]),
                   (unused(72, 10, 1), [0]), (cluster(71), [1, 71]), (cluster(73), [2, 72, 73]),
                   (cluster(72), [2, 72, 73]),
                   *self.used((72, 1)), (cluster(73), [3, 71, 72, 73]))

    def test_two_lots_in_common(self):
        self.check(*self.lots, *self.used((71, 1), (72, 1), (71, 2), (72, 2)), (unused(71, 10, 1), [0]),
                   (cluster(71), [2, 71, 72]), (unused(72, 20, 1), [0]), (cluster(71), [1, 71]), (cluster(72), [1, 72]))

    def test_closed_and_broken_sessions(self):
        self.check(*self.lots, *self.used((71, 1), (72, 1), (72, 2), (73, 2)), (reserve(73, 3, 1), row((30, 1))),
                   (recall(30), [0, 1, 73, 1]), (close(72), [2]), (cluster(71), [3, 71, 72, 73]),
                   (cluster(72), [3, 71, 72, 73]), (close(71), [1]), (cluster(73), [3, 71, 72, 73]))

    def test_lots_that_are_not_good(self):
        self.check(*self.lots, *self.used((71, 1), (72, 1), (72, 2), (73, 2)), (recall(10), [2, 71, 1, 72, 1, 0]),
                   (day(10), [0]), (sweep(), row((40, 100), (20, 98), (60, 100), (10, 98), (30, 100), (50, 100))),
                   (cluster(71), [3, 71, 72, 73]))

    def rows_of_sessions(self, order):
        """128 sessions, each using the last piece of one lot and the first of the next: 127 lots of two pieces."""
        lots = received(*[receive(l, 1, 2, l) for l in range(1, 128)])
        steps = [(issue(order[0], 1, 1), row((1, 1)))]
        steps += [(issue(order[at], 1, 2), row((at, 1), (at + 1, 1))) for at in range(1, 127)]
        steps += [(issue(order[127], 1, 1), row((127, 1)))]
        return [*granted(article(1), *[open_(k) for k in range(1, 129)]), *lots, *steps]

    def test_128_sessions_in_a_row(self):
        everybody = [128, *range(1, 129)]
        mixed = [1 + at * 37 % 128 for at in range(128)]
        for order in (list(range(1, 129)), list(range(128, 0, -1)), mixed):
            steps = self.rows_of_sessions(order)
            looks = [(cluster(k), everybody) for k in (order[0], order[1], order[64], order[127])]
            self.check(*steps, *looks, (unused(order[64], 64, 1), [0]),
                       (cluster(order[0]), [64, *sorted(order[:64])]), (cluster(order[63]), [64, *sorted(order[:64])]),
                       (cluster(order[64]), [64, *sorted(order[64:])]),
                       (cluster(order[127]), [64, *sorted(order[64:])]))

    def test_128_sessions_of_one_lot(self):
        sessions = range(128, 0, -1)
        self.check(*granted(article(1), *[open_(k) for k in sessions]), *received(receive(10, 1, 1000, 9)),
                   *[(issue(k, 1, 1), row((10, 1))) for k in sessions], (cluster(77), [128, *range(1, 129)]))

    def test_refusals(self):
        self.check(*self.lots, (cluster(77), [-6]), (cluster(0), [-1]), (cluster(1000000001), [-1]),
                   (cluster(1000000000), [-6]))
