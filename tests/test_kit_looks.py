"""Points 17 to 19, 25 and 26: need, able, short, parts, low."""

from tests.lines import (LineCase, able, article, count, day, granted, issue, least, low, need, open_, parts, recall,
                         receive, received, recipe, release, reserve, row, short, sweep, take, throw, unused)

# 5 is 2 of 4 and 5 of 1; 4 is 3 of 2 and 2 of 1: so 1 stands in 5 at two places, and one of 5 needs 9 of 1, 6 of 2.
KITS = granted(article(5), article(2), article(1), article(4), recipe(4, 2, 3, 1, 2), recipe(5, 4, 2, 1, 5))
# Article 10 + k is k deep: two of the one before it and one of article 1.
DEEP = [*granted(article(1), *[article(10 + k) for k in range(9)]),
        *granted(*[recipe(10 + k, 9 + k, 2, 1, 1) for k in range(1, 9)])]
STOCK = [*KITS, *granted(open_(9)), *received(receive(11, 1, 60, 5), receive(12, 1, 40, 3), receive(20, 2, 40, 4))]


class NeedTest(LineCase):
    def test_a_plain_article(self):
        self.check(*KITS, (need(1, 1), row((1, 1))), (need(2, 7), row((2, 7))), (need(1, 1000000), row((1, 1000000))))

    def test_a_kit(self):
        self.check(*KITS, (need(4, 1), row((1, 2), (2, 3))), (need(4, 10), row((1, 20), (2, 30))))

    def test_a_part_at_several_places(self):
        self.check(*KITS, (need(5, 1), row((1, 9), (2, 6))), (need(5, 3), row((1, 27), (2, 18))))

    def test_eight_deep(self):
        self.check(*DEEP, (need(18, 1), row((1, 255), (10, 256))), (need(18, 3), row((1, 765), (10, 768))),
                   (need(17, 1), row((1, 127), (10, 128))), (need(11, 1), row((1, 1), (10, 2))))

    def test_the_greatest_need(self):
        self.check(*granted(article(1), article(2), article(3), recipe(2, 1, 1000), recipe(3, 2, 1000)),
                   (need(3, 1000000), row((1, 1000000000000))))

    def test_what_is_there_is_no_matter(self):
        self.check(*STOCK, (need(5, 1000), row((1, 9000), (2, 6000))))

    def test_as_the_recipes_stand(self):
        self.check(*KITS, *granted(article(3)), (recipe(4, 3, 1), [0]), (need(5, 2), row((1, 10), (3, 4))),
                   (recipe(4), [0]), (need(5, 2), row((1, 10), (4, 4))), (recipe(5), [0]), (need(5, 2), row((5, 2))),
                   (recipe(5, 5, 1), [-10]), (need(5, 2), row((5, 2))))

    def test_refusals(self):
        self.check(*KITS, (need(3, 1), [-4]), (need(3, 0), [-1]), (need(0, 1), [-1]), (need(1000001, 1), [-1]),
                   (need(4, 0), [-1]), (need(4, 1000001), [-1]), (need(1000000, 1000000), [-4]))


class AbleTest(LineCase):
    def test_a_plain_article(self):
        self.check(*KITS, (able(1), [0]), *received(receive(11, 1, 60, 5)), (able(1), [60]),
                   (receive(11, 1, 1, 5), [61]),
                   (able(1), [61]), (able(2), [0]))

    def test_a_kit(self):
        self.check(*STOCK, (able(4), [13]), (throw(20, 1), [39]), (able(4), [13]), (throw(20, 1), [38]),
                   (able(4), [12]),
                   (throw(20, 38), [0]), (able(4), [0]))

    def test_the_scarcest_part_counts(self):
        self.check(*STOCK, (able(5), [6]), (throw(11, 46), [14]), (able(5), [6]), (throw(11, 1), [13]), (able(5), [5]),
                   (receive(20, 2, 100, 4), [140]), (able(5), [5]))

    def test_a_part_at_several_places(self):
        self.check(*KITS, *received(receive(20, 2, 6, 5), receive(10, 1, 8, 5)), (able(5), [0]),
                   (receive(10, 1, 1, 5), [9]), (able(5), [1]))

    def test_eight_deep(self):
        self.check(*DEEP, *received(receive(100, 10, 1024, 5), receive(101, 1, 1019, 5)), (able(18), [3]),
                   (receive(101, 1, 1, 5), [1020]), (able(18), [4]), (able(17), [8]), (able(11), [512]))

    def test_just_a_million_and_more(self):
        most = 1000000
        self.check(*granted(article(1), article(2), recipe(2, 1, 2)), *received(receive(10, 1, most - 1, 5)),
                   (able(1), [most - 1]), (receive(10, 1, 1, 5), [most]), (able(1), [most]), (able(2), [most // 2]),
                   (receive(10, 1, 1, 5), [most + 1]), (able(1), [most]), (receive(10, 1, most - 2, 5), [2 * most - 1]),
                   (able(2), [most - 1]), (receive(10, 1, 1, 5), [2 * most]), (able(2), [most]),
                   (receive(10, 1, most, 5), [3 * most]), (able(2), [most]), (able(1), [most]))

    def test_only_what_is_free_and_good(self):
        self.check(*STOCK, (able(1), [100]), (issue(9, 1, 5), row((12, 5))), (able(1), [95]),
                   (reserve(9, 1, 5), row((12, 5))), (able(1), [90]), (day(3), [0]), (able(1), [90]),
                   (release(9), row((12, 5))), (able(1), [95]), (day(4), [0]), (able(1), [60]), (recall(11), [0, 0]),
                   (able(1), [0]), (able(4), [0]), (able(2), [40]))

    def test_just_as_many_can_be_issued(self):
        self.check(*STOCK, (issue(9, 5, 7), [-15]), (able(5), [6]),
                   (issue(9, 5, 6), row((12, 40), (11, 14), (20, 36))), (able(5), [0]), (issue(9, 5, 1), [-15]))

    def test_refusals(self):
        self.check(*KITS, (able(3), [-4]), (able(0), [-1]), (able(1000001), [-1]), (able(1000000), [-4]))


class ShortTest(LineCase):
    def test_nothing_is_missing(self):
        self.check(*STOCK, (short(1, 100), [0]), (short(4, 13), [0]), (short(5, 6), [0]), (short(2, 1), [0]))

    def test_something_is_missing(self):
        self.check(*STOCK, (short(1, 101), row((1, 1))), (short(4, 14), row((2, 2))), (short(5, 7), row((2, 2))),
                   (short(5, 12), row((1, 8), (2, 32))), (short(2, 1000000), row((2, 999960))))

    def test_everything_is_missing(self):
        self.check(*KITS, (short(1, 7), row((1, 7))), (short(4, 2), row((1, 4), (2, 6))),
                   (short(5, 1), row((1, 9), (2, 6))))

    def test_only_one_of_the_parts_is_missing(self):
        self.check(*STOCK, (throw(11, 60), [0]), (short(5, 5), row((1, 5))), (throw(12, 40), [0]),
                   (short(5, 6), row((1, 54))))

    def test_eight_deep(self):
        self.check(*DEEP, *received(receive(100, 10, 1000, 5)), (short(18, 4), row((1, 1020), (10, 24))),
                   (short(18, 3), row((1, 765))))

    def test_only_what_is_free_and_good_is_there(self):
        self.check(*STOCK, (issue(9, 1, 5), row((12, 5))), (reserve(9, 1, 5), row((12, 5))),
                   (short(1, 100), row((1, 10))),
                   (take(9), row((12, 5))), (unused(9, 12, 10), [0]), (short(1, 100), [0]), (day(4), [0]),
                   (short(1, 100), row((1, 40))), (recall(20), [0, 0]), (short(4, 1), row((2, 3))),
                   (recall(11), [0, 0]),
                   (short(4, 1), row((1, 2), (2, 3))))

    def test_refusals(self):
        self.check(*KITS, (short(3, 1), [-4]), (short(3, 0), [-1]), (short(0, 1), [-1]), (short(1000001, 1), [-1]),
                   (short(4, 0), [-1]), (short(4, 1000001), [-1]), (short(1000000, 1000000), [-4]))


class PartsTest(LineCase):
    def test_a_plain_article(self):
        self.check(*granted(article(7, 12), article(8, 0), article(9, 1000000)), (parts(7), [12, 0]),
                   (parts(8), [0, 0]),
                   (parts(9), [1000000, 0]))

    def test_a_kit_in_the_order_in_which_it_was_told(self):
        self.check(*KITS, (parts(4), [0, 2, 2, 3, 1, 2]), (parts(5), [0, 2, 4, 2, 1, 5]), (recipe(4, 1, 2, 2, 3), [0]),
                   (parts(4), [0, 2, 1, 2, 2, 3]), (recipe(4, 2, 1000), [0]), (parts(4), [0, 1, 2, 1000]))

    def test_sixteen_parts(self):
        told = [number for part in range(17, 1, -1) for number in (part, part * 3)]
        self.check(*granted(*[article(a) for a in range(1, 18)], recipe(1, *told)), (parts(1), [0, 16, *told]))

    def test_least_stock_is_kept_through_a_kit(self):
        self.check(*granted(article(7, 12), article(8, 3), recipe(7, 8, 2)), (parts(7), [12, 1, 8, 2]),
                   (least(7, 5), [-9]),
                   (parts(7), [12, 1, 8, 2]), (low(), row((8, 3))), (recipe(7), [0]), (parts(7), [12, 0]),
                   (low(), row((7, 12), (8, 3))), (least(7, 5), [0]), (parts(7), [5, 0]))

    def test_a_refused_recipe_is_not_told(self):
        self.check(*KITS, (recipe(4, 5, 1), [-10]), (recipe(4, 1, 1001), [-1]), (recipe(4, 9, 1), [-4]),
                   (recipe(1, 2, 1), [0]), (recipe(2, 1, 1), [-10]), (parts(4), [0, 2, 2, 3, 1, 2]), (parts(2), [0, 0]))

    def test_refusals(self):
        self.check(*KITS, (parts(3), [-4]), (parts(0), [-1]), (parts(1000001), [-1]), (parts(1000000), [-4]))


class LowTest(LineCase):
    def test_an_empty_store(self):
        self.check((low(), [0]), *granted(article(5)), (low(), [0]))

    def test_the_smaller_article_first(self):
        self.check(*granted(article(9, 4), article(3, 5), article(7, 0), article(5, 1000000)),
                   (low(), row((3, 5), (5, 1000000), (9, 4))), *received(receive(10, 3, 3, 9)),
                   (low(), row((3, 2), (5, 1000000), (9, 4))))

    def test_just_enough_is_not_told(self):
        self.check(*granted(article(3, 5)), *received(receive(10, 3, 4, 9)), (low(), row((3, 1))),
                   (receive(10, 3, 1, 9), [5]), (low(), [0]), (receive(10, 3, 1, 9), [6]), (low(), [0]),
                   (least(3, 6), [0]), (low(), [0]), (least(3, 7), [0]), (low(), row((3, 1))))

    def test_kits_are_not_told(self):
        self.check(*granted(article(3, 5), article(4, 6), recipe(4, 3, 1)), (low(), row((3, 5))), (recipe(4), [0]),
                   (low(), row((3, 5), (4, 6))), (recipe(3, 4, 1), [0]), (low(), row((4, 6))))

    def test_lots_that_are_not_good_do_not_count(self):
        self.check(*granted(article(3, 10)), *received(receive(10, 3, 6, 4), receive(11, 3, 5, 8)), (low(), [0]),
                   (day(4), [0]), (low(), [0]), (day(5), [0]), (low(), row((3, 5))), (recall(11), [0, 0]),
                   (low(), row((3, 10))), (sweep(), row((10, 6), (11, 5))), (low(), row((3, 10))))

    def test_only_what_is_free_counts(self):
        self.check(*granted(article(3, 10), open_(9)), *received(receive(10, 3, 12, 4)),
                   (reserve(9, 3, 3), row((10, 3))),
                   (low(), row((3, 1))), (take(9), row((10, 3))), (low(), row((3, 1))), (unused(9, 10, 1), [2]),
                   (low(), [0]), (throw(10, 1), [9]), (low(), row((3, 1))), (count(10, 20), [11, 0]), (low(), [0]),
                   (count(10, 0), [0, 20]), (low(), row((3, 10))))

    def test_all_sixty_four(self):
        self.check(*granted(*[article(a, a) for a in range(64, 0, -1)]), (low(), row(*[(a, a) for a in range(1, 65)])))
