"""Points 7 and 8: issue and reserve, and how a need is picked."""

from tests.lines import (LineCase, article, close, count, day, granted, issue, open_, recall, receive, received, recipe,
                         release, reserve, row, take, throw, unused)

LOTS = [*granted(article(1), open_(5)),
        *received(receive(13, 1, 10, 9), receive(12, 1, 20, 7), receive(14, 1, 30, 9), receive(11, 1, 40, 8))]


class PickingTest(LineCase):
    """What issue picks, reserve picks too, and take hands it out."""

    def check_picks(self, steps, article_number, amount, *picked):
        self.check(*steps, (issue(5, article_number, amount), row(*picked)))
        coming = [call[1] for call, _ in steps if call[0] == 4]
        taken = sorted(picked, key=lambda pair: coming.index(pair[0]))
        self.check(*steps, (reserve(5, article_number, amount), row(*picked)), (take(5), row(*taken)))

    def test_the_first_to_expire(self):
        self.check_picks(LOTS, 1, 1, (12, 1))
        self.check_picks(LOTS, 1, 20, (12, 20))
        self.check_picks(LOTS, 1, 21, (12, 20), (11, 1))
        self.check_picks(LOTS, 1, 60, (12, 20), (11, 40))

    def test_the_same_last_day_twice(self):
        self.check_picks(LOTS, 1, 61, (12, 20), (11, 40), (13, 1))
        self.check_picks(LOTS, 1, 71, (12, 20), (11, 40), (13, 10), (14, 1))
        self.check_picks(LOTS, 1, 100, (12, 20), (11, 40), (13, 10), (14, 30))

    def test_more_of_a_lot_leaves_its_place_in_the_order(self):
        self.check_picks([*LOTS, (receive(13, 1, 5, 9), [15])], 1, 77, (12, 20), (11, 40), (13, 15), (14, 2))

    def test_lots_past_their_last_day(self):
        self.check_picks([*LOTS, (day(7), [0])], 1, 21, (12, 20), (11, 1))
        self.check_picks([*LOTS, (day(8), [0])], 1, 41, (11, 40), (13, 1))
        self.check_picks([*LOTS, (day(9), [0])], 1, 40, (13, 10), (14, 30))

    def test_lots_that_are_called_back(self):
        self.check_picks([*LOTS, (recall(12), [0, 0]), (recall(13), [0, 0])], 1, 41, (11, 40), (14, 1))

    def test_lots_with_nothing_free_are_not_told(self):
        self.check_picks([*LOTS, (throw(11, 40), [0]), (throw(12, 19), [1])], 1, 3, (12, 1), (13, 2))

    def test_gained_ones_are_picked_too(self):
        self.check_picks([*LOTS, (count(12, 25), [5, 0])], 1, 26, (12, 25), (11, 1))

    def test_the_smaller_article_first(self):
        """The order of the parts and of the lots is another one."""
        kit = [*granted(article(9), article(3), article(2), article(7), recipe(9, 7, 2, 2, 1, 3, 3), open_(5)),
               *received(receive(31, 3, 4, 9), receive(71, 7, 9, 1), receive(21, 2, 9, 9), receive(32, 3, 9, 8))]
        self.check_picks(kit, 9, 1, (21, 1), (32, 3), (71, 2))
        self.check_picks(kit, 9, 4, (21, 4), (32, 9), (31, 3), (71, 8))

    def test_a_part_at_several_places(self):
        """One of 9 needs 2 + 3 * 1 + 1 * (1 + 2 * 1) of 1 and 3 * 4 + 1 * 2 * 4 of 2."""
        kit = [*granted(*[article(a) for a in (1, 2, 7, 8, 9)], recipe(7, 1, 1, 2, 4), recipe(8, 7, 2, 1, 1)),
               *granted(recipe(9, 8, 1, 1, 2, 7, 3), open_(5)),
               *received(receive(10, 1, 10, 9), receive(20, 2, 60, 9), receive(11, 1, 14, 9))]
        self.check_picks(kit, 9, 1, (10, 8), (20, 20))
        self.check_picks(kit, 9, 2, (10, 10), (11, 6), (20, 40))
        self.check_picks(kit, 9, 3, (10, 10), (11, 14), (20, 60))
        self.check(*kit, (issue(5, 9, 4), [-15]))

    def test_the_greatest_amount(self):
        many = [*granted(article(1), open_(5)), *received(receive(10, 1, 1000000, 9), receive(11, 1, 1, 9))]
        self.check_picks(many, 1, 1000000, (10, 1000000))
        self.check(*many, (issue(5, 1, 1000001), [-1]), (issue(5, 1, 0), [-1]), (reserve(5, 1, 1000001), [-1]),
                   (reserve(5, 1, 0), [-1]))


class NotEnoughTest(LineCase):
    def check_both(self, *steps):
        """The last step's answer is due from issue and from reserve."""
        *before, (last, answer) = steps
        for place in (7, 8):
            self.check(*before, ([place, *last[1:]], answer))

    def test_one_too_few(self):
        self.check_both(*LOTS, (issue(5, 1, 101), [-15]))
        self.check_both(*LOTS, (issue(5, 1, 1000000), [-15]))

    def test_what_is_not_good_is_not_there(self):
        self.check_both(*LOTS, (day(8), [0]), (issue(5, 1, 81), [-15]))
        self.check_both(*LOTS, (recall(13), [0, 0]), (issue(5, 1, 91), [-15]))
        self.check_both(*LOTS, (day(10), [0]), (issue(5, 1, 1), [-15]))

    def test_what_is_held_or_used_is_not_there(self):
        self.check_both(*LOTS, (reserve(5, 1, 99), row((12, 20), (11, 40), (13, 10), (14, 29))), (issue(5, 1, 2), [-15]))
        self.check_both(*LOTS, (issue(5, 1, 99), row((12, 20), (11, 40), (13, 10), (14, 29))), (issue(5, 1, 2), [-15]))

    def test_one_part_of_a_kit_is_missing(self):
        kit = [*granted(article(1), article(2), article(9), recipe(9, 1, 1, 2, 1), open_(5)),
               *received(receive(10, 1, 5, 9))]
        self.check_both(*kit, (issue(5, 9, 1), [-15]))
        self.check_both(*kit, (receive(20, 2, 4, 9), [4]), (issue(5, 9, 5), [-15]))
        self.check(*kit, (receive(20, 2, 4, 9), [4]), (issue(5, 9, 5), [-15]), (issue(5, 9, 4), row((10, 4), (20, 4))),
                   (throw(10, 2), [-15]), (throw(10, 1), [0]))

    def test_an_article_without_lots(self):
        self.check_both(*granted(article(1), open_(5)), (issue(5, 1, 1), [-15]))


class IssueTest(LineCase):
    def test_what_is_picked_is_used(self):
        self.check(*LOTS, (issue(5, 1, 25), row((12, 20), (11, 5))), (throw(12, 1), [-15]), (throw(11, 36), [-15]),
                   (issue(5, 1, 3), row((11, 3))), (recall(11), [1, 5, 8, 0]), (recall(12), [1, 5, 20, 0]),
                   (recall(13), [0, 0]), (close(5), [28]))

    def test_a_broken_session_is_issued_to(self):
        self.check(*LOTS, (reserve(5, 1, 1), row((12, 1))), (recall(12), [0, 1, 5, 1]), (issue(5, 1, 2), row((11, 2))),
                   (take(5), [-16]), (unused(5, 11, 1), [1]), (reserve(5, 1, 1), [-16]))

    def test_refusals_in_their_order(self):
        self.check(*LOTS, (issue(6, 1, 1), [-6]), (issue(6, 2, 1), [-6]), (issue(6, 1, 1000), [-6]),
                   (issue(6, 2, 0), [-1]), (issue(5, 2, 0), [-1]), (issue(0, 1, 1), [-1]), (issue(5, 0, 1), [-1]),
                   (issue(5, 2, 1), [-4]), (issue(5, 2, 1000000), [-4]), (issue(5, 1, 101), [-15]), (close(5), [0]),
                   (issue(5, 2, 1), [-7]), (issue(5, 1, 101), [-7]), (issue(5, 1, 1), [-7]), (issue(5, 2, 0), [-1]))


class ReserveTest(LineCase):
    def test_what_is_picked_is_held(self):
        self.check(*LOTS, (reserve(5, 1, 25), row((12, 20), (11, 5))), (throw(12, 1), [-15]), (throw(11, 36), [-15]),
                   (close(5), [-18]), (issue(5, 1, 1), row((11, 1))), (recall(12), [0, 1, 5, 20]),
                   (recall(11), [1, 5, 1, 1, 5, 5]), (close(5), [1]))

    def test_for_several_sessions(self):
        self.check(*LOTS, *granted(open_(6)), (reserve(6, 1, 15), row((12, 15))),
                   (reserve(5, 1, 7), row((12, 5), (11, 2))),
                   (reserve(6, 1, 1), row((11, 1))), (release(6), row((12, 15), (11, 1))),
                   (take(5), row((12, 5), (11, 2))))

    def test_refusals_in_their_order(self):
        self.check(*LOTS, (reserve(6, 1, 1), [-6]), (reserve(6, 2, 1), [-6]), (reserve(6, 2, 0), [-1]),
                   (reserve(0, 1, 1), [-1]), (reserve(5, 0, 1), [-1]), (reserve(5, 2, 1), [-4]),
                   (reserve(5, 2, 1000000), [-4]), (reserve(5, 1, 101), [-15]),
                   (reserve(5, 1, 1), row((12, 1))), (recall(12), [0, 1, 5, 1]), (reserve(5, 1, 1), [-16]),
                   (reserve(5, 2, 1), [-16]), (reserve(5, 1, 1000), [-16]), (reserve(5, 2, 0), [-1]),
                   (reserve(6, 1, 1), [-6]), (close(5), [0]), (reserve(5, 2, 1), [-7]), (reserve(5, 1, 1000), [-7]),
                   (reserve(5, 1, 1), [-7]), (reserve(5, 1, 0), [-1]))
