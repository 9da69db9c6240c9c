"""Points 1 to 3: article, least, recipe."""

from tests.lines import (LineCase, article, close, granted, issue, least, open_, recall, receive, received, recipe,
                         reserve, row, sweep, throw)


class ArticleTest(LineCase):
    def test_a_new_article_is_plain_with_its_least_stock(self):
        store = self.check(*granted(article(7, 12), article(3, 0)))
        self.assertEqual(store.articles[7].least, 12)
        self.assertEqual(store.articles[3].least, 0)
        self.assertEqual(store.articles[7].parts, [])
        self.check(*granted(article(7, 12)), *received(receive(1, 7, 5, 9)))

    def test_edges_of_the_ranges(self):
        store = self.check(*granted(article(1, 0), article(1000000, 1000000)))
        self.assertEqual(store.articles[1000000].least, 1000000)

    def test_known_already(self):
        store = self.check(*granted(article(7, 12)), (article(7, 13), [-3]), (article(7, 12), [-3]))
        self.assertEqual(store.articles[7].least, 12)
        self.check(*granted(article(7), article(8), recipe(7, 8, 1)), (article(7), [-3]))

    def test_sixty_four_articles(self):
        full = granted(*[article(a) for a in range(1, 65)])
        self.check(*full, (article(65), [-8]))
        self.check(*full, (article(64), [-3]), (article(65), [-8]), (article(0), [-1]), (article(64, -1), [-1]))


class LeastTest(LineCase):
    def test_the_least_stock_is_changed(self):
        store = self.check(*granted(article(7, 12), article(8, 5), least(7, 1000000), least(8, 0)))
        self.assertEqual(store.articles[7].least, 1000000)
        self.assertEqual(store.articles[8].least, 0)

    def test_refusals(self):
        known = granted(article(7, 12), article(8), recipe(7, 8, 2))
        store = self.check(*known, (least(7, 1), [-9]), (least(9, 1), [-4]))
        self.assertEqual(store.articles[7].least, 12)
        self.check(*known, (least(7, -1), [-1]), (least(7, 1000001), [-1]), (least(9, -1), [-1]), (least(0, 5), [-1]))

    def test_a_kits_least_stock_is_kept_until_it_is_plain_again(self):
        store = self.check(*granted(article(7, 12), article(8), recipe(7, 8, 2), recipe(7)))
        self.assertEqual(store.articles[7].least, 12)
        self.check(*granted(article(7, 12), article(8), recipe(7, 8, 2), recipe(7), least(7, 3)))


class RecipeTest(LineCase):
    def test_a_kit_is_handed_out_as_its_parts(self):
        store = self.check(
            *granted(article(1), article(2), article(9), recipe(9, 2, 3, 1, 2), open_(5)),
            *received(receive(20, 2, 30, 4), receive(10, 1, 30, 4)),
            (issue(5, 9, 4), row((10, 8), (20, 12))))
        self.assertEqual(store.articles[9].parts, [(2, 3), (1, 2)])

    def test_new_parts_take_the_place_of_the_old(self):
        self.check(
            *granted(article(1), article(2), article(9), recipe(9, 1, 2), recipe(9, 2, 5), open_(5)),
            *received(receive(20, 2, 30, 4), receive(10, 1, 30, 4)),
            (issue(5, 9, 1), row((20, 5))))

    def test_an_empty_list_makes_it_plain(self):
        self.check(
            *granted(article(1), article(9), recipe(9, 1, 2)),
            (receive(90, 9, 1, 4), [-9]),
            *granted(recipe(9), recipe(1), recipe(9)),
            *received(receive(90, 9, 1, 4)))

    def test_kits_above_follow_a_change_below_them(self):
        self.check(
            *granted(article(1), article(2), article(8), article(9), recipe(9, 8, 3, 1, 1), open_(5)),
            *received(receive(10, 1, 100, 4), receive(20, 2, 100, 4)),
            (issue(5, 9, 1), [-15]),
            *granted(recipe(8, 2, 2)),
            (issue(5, 9, 1), row((10, 1), (20, 6))),
            *granted(recipe(8, 1, 4, 2, 1)),
            (issue(5, 9, 1), row((10, 13), (20, 3))),
            *granted(recipe(8)),
            *received(receive(80, 8, 7, 4)),
            (issue(5, 9, 2), row((10, 2), (80, 6))))

    def test_edges_of_the_ranges(self):
        self.check(
            *granted(article(1), article(1000000), recipe(1, 1000000, 1), recipe(1, 1000000, 1000)),
            *granted(recipe(1), recipe(1000000, 1, 1000)),
            (recipe(1000000, 1, 1001), [-1]), (recipe(1000000, 1, 0), [-1]), (recipe(1000000, 1, -1), [-1]),
            (recipe(1000000, 0, 1), [-1]), (recipe(1000000, 1000001, 1), [-1]))

    def test_sixteen_parts_and_not_seventeen(self):
        known = granted(*[article(a) for a in range(1, 19)])
        sixteen = [number for part in range(1, 17) for number in (part, 1)]
        self.check(*known, (recipe(18, *sixteen), [0]))
        self.check(*known, (recipe(18, *sixteen, 17, 1), [-1]), (recipe(18, *sixteen, 17), [-1]))

    def test_odd_lists_and_long_ones(self):
        known = granted(article(1), article(2), article(3))
        self.check(*known, (recipe(3, 1), [-1]), (recipe(3, 1, 1, 2), [-1]))
        self.check(*known, (recipe(3, *[1] * 33), [-1]), (recipe(3, *[1] * 34), [-1]), (recipe(3, *[1] * 97), [-1]),
                   (recipe(3, 1, 1), [0]))

    def test_no_part_twice(self):
        known = granted(article(1), article(2), article(3))
        self.check(*known, (recipe(3, 1, 5, 1, 5), [-1]), (recipe(3, 1, 5, 2, 5, 1, 6), [-1]))
        self.check(*known, (recipe(3, 1, 2, 2, 2), [0]), (recipe(2, 1, 1), [0]))

    def test_what_is_not_known(self):
        known = granted(article(1), article(2))
        self.check(*known, (recipe(3, 1, 1), [-4]), (recipe(1, 3, 1), [-4]), (recipe(1, 2, 1, 3, 1), [-4]),
                   (recipe(3), [-4]), (recipe(3, 3, 1), [-4]))

    def test_an_article_with_a_lot_stays_plain(self):
        known = [*granted(article(1), article(2)), *received(receive(10, 1, 5, 4))]
        self.check(*known, (recipe(1, 2, 1), [-9]), (recipe(1), [-9]), (recipe(2, 1, 1), [0]))
        self.check(*known, (throw(10, 5), [0]), (recipe(1, 2, 1), [-9]), (recipe(1), [-9]))
        self.check(*known, (recall(10), [0, 0]), (sweep(), row((10, 5))), (recipe(1), [-9]))

    def test_the_first_refusal_is_told(self):
        known = [*granted(article(1), article(2)), *received(receive(10, 1, 5, 4))]
        self.check(*known, (recipe(1, 3, 1), [-4]), (recipe(1, 1, 1), [-9]), (recipe(1, 1, 1, 3, 1), [-4]),
                   (recipe(1, 3, 1001), [-1]), (recipe(3, 1), [-1]), (recipe(1, 1, 1, 1, 1), [-1]),
                   (recipe(0), [-1]), (recipe(1000001), [-1]), (recipe(2, 2, 1, 3, 1), [-4]))


class RingTest(LineCase):
    def test_itself(self):
        self.check(*granted(article(1), article(2)), (recipe(1, 1, 1), [-10]), (recipe(1, 2, 1, 1, 1), [-10]))

    def test_through_several_kits(self):
        self.check(
            *granted(*[article(a) for a in range(1, 7)], recipe(2, 1, 1), recipe(3, 6, 1, 2, 1), recipe(4, 3, 1)),
            (recipe(1, 2, 1), [-10]), (recipe(1, 3, 1), [-10]), (recipe(1, 4, 1), [-10]),
            (recipe(1, 5, 1, 4, 1), [-10]), (recipe(2, 4, 1), [-10]), (recipe(6, 4, 1), [-10]),
            (recipe(1, 5, 1), [0]), (recipe(5, 4, 1), [-10]), (recipe(4, 5, 1), [0]), (recipe(3, 4, 1), [0]),
            (recipe(5, 3, 1), [-10]))

    def test_by_the_recipes_before_the_call(self):
        """A part that has the article below it is refused, and so is one that the article has lost since."""
        self.check(
            *granted(article(1), article(2), article(3), recipe(1, 2, 1)),
            (recipe(2, 1, 1), [-10]),
            *granted(recipe(1, 3, 1), recipe(2, 1, 1)),
            (recipe(3, 2, 1), [-10]), (recipe(1, 2, 1), [-10]))

    def test_a_broken_up_ring_is_no_ring(self):
        self.check(*granted(article(1), article(2), article(3), recipe(2, 1, 1), recipe(3, 2, 1)),
                   (recipe(1, 3, 1), [-10]), *granted(recipe(2), recipe(1, 3, 1)), (recipe(2, 1, 1), [-10]))

    def test_a_refused_recipe_leaves_the_parts(self):
        self.check(
            *granted(article(1), article(2), article(3), recipe(3, 1, 2), open_(5)),
            *received(receive(10, 1, 9, 4), receive(20, 2, 9, 4)),
            (recipe(3, 2, 1, 3, 1), [-10]), (recipe(3, 4, 1), [-4]), (recipe(3, 2), [-1]),
            (reserve(5, 3, 1), row((10, 2))), (close(5), [-18]))
