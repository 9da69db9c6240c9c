"""Point 3: the limits of depth, size and need."""

from tests.lines import LineCase, article, granted, issue, open_, receive, received, recipe, row


def chain(first, last):
    """Each article from first to last is a kit of the one before it."""
    return granted(*[recipe(a, a - 1, 1) for a in range(first, last + 1)])


def pairs(parts, count=1):
    return [number for part in parts for number in (part, count)]


class DepthTest(LineCase):
    def test_eight_deep_and_not_nine(self):
        self.check(*granted(*[article(a) for a in range(1, 12)]), *chain(2, 9), (recipe(10, 9, 1), [-11]),
                   (recipe(10, 8, 1), [0]), (recipe(11, 8, 1, 9, 1), [-11]))

    def test_a_change_below_makes_another_too_deep(self):
        known = granted(*[article(a) for a in range(1, 12)])
        self.check(*known, *chain(2, 9), (recipe(1, 11, 1), [-11]), (recipe(4, 3, 1, 11, 1), [0]))
        self.check(*known, *chain(3, 9), (recipe(2, 1, 1), [0]), (recipe(1, 11, 1), [-11]))
        self.check(*known, *chain(2, 5), *chain(7, 10), (recipe(6, 5, 1), [-11]), (recipe(6, 4, 1), [0]),
                   (recipe(6, 11, 1, 5, 1), [-11]), (recipe(6), [0]), (recipe(6, 3, 1), [0]))

    def test_the_greatest_depth_of_the_parts_counts(self):
        self.check(*granted(*[article(a) for a in range(1, 12)]), *chain(2, 8),
                   (recipe(9, 1, 1, 8, 1, 2, 1), [0]), (recipe(10, 11, 1, 9, 1, 1, 1), [-11]))

    def test_ring_goes_before_depth(self):
        self.check(*granted(*[article(a) for a in range(1, 12)]), *chain(2, 9), (recipe(1, 9, 1), [-10]),
                   (recipe(10, 9, 1, 10, 1), [-10]), (recipe(10, 9, 1, 12, 1), [-4]))

    def test_a_lot_goes_before_depth(self):
        self.check(*granted(*[article(a) for a in range(1, 12)]), *chain(2, 9), *received(receive(5, 10, 1, 1)),
                   (recipe(10, 9, 1), [-9]), (recipe(1, 10, 1), [-11]))

    def test_a_deep_kit_is_handed_out(self):
        self.check(*granted(*[article(a) for a in range(1, 10)]), *chain(2, 9), *granted(open_(5)),
                   *received(receive(10, 1, 6, 4)), (issue(5, 9, 6), row((10, 6))))


class SizeTest(LineCase):
    """The articles 1 to 16 are plain; kits of all of them have the size 17, and 15 such the size 255."""

    plains = range(1, 17)
    kits = range(17, 32)

    def known(self):
        return granted(*[article(a) for a in range(1, 41)],
                       *[recipe(kit, *pairs(self.plains)) for kit in self.kits])

    def test_256_and_not_257(self):
        self.check(*self.known(), (recipe(40, *pairs(self.kits), 1, 1), [-11]), (recipe(40, *pairs(self.kits)), [0]),
                   (recipe(40, *pairs(self.kits), 39, 1), [-11]))

    def test_the_count_of_a_part_is_no_matter(self):
        self.check(*self.known(), (recipe(40, *pairs(self.kits, 1000)), [0]))

    def test_a_change_below_makes_another_too_great(self):
        fifteen = pairs(range(1, 16))
        self.check(*self.known(), *granted(recipe(17, *fifteen), recipe(40, *pairs(self.kits), 1, 1)),
                   (recipe(17, *fifteen, 16, 1), [-11]), (recipe(1, 39, 1), [-11]), (recipe(17, 1, 1), [0]),
                   (recipe(17, *fifteen), [0]))

    def test_a_part_at_two_places_counts_at_both(self):
        """Articles 32 to 38: each has the one before it and what that one has, so sizes double: 2, 4, 8 .. 128."""
        doubling = granted(recipe(32, 1, 1), recipe(33, 32, 1, 1, 1))
        for kit in range(34, 39):
            doubling += granted(recipe(kit, *pairs(range(32, kit)), 1, 1))
        self.check(*granted(*[article(a) for a in range(1, 41)]), *doubling,
                   (recipe(39, *pairs(range(32, 39)), 1, 1), [0]),
                   (recipe(40, 39, 1), [-11]), (recipe(39, *pairs(range(32, 39)), 1, 1, 2, 1), [-11]))


class NeedTest(LineCase):
    """One of article 3 needs 1000000 of article 1 in several ways."""

    def test_a_million_and_not_one_more(self):
        known = granted(*[article(a) for a in range(1, 5)], recipe(2, 1, 1000))
        self.check(*known, (recipe(3, 2, 1000), [0]))
        self.check(*known, (recipe(3, 2, 1000, 1, 1), [-11]), (recipe(3, 1, 1, 2, 1000), [-11]),
                   (recipe(3, 2, 1000, 4, 1), [0]))

    def test_a_change_below_makes_another_need_too_much(self):
        known = granted(*[article(a) for a in range(1, 5)], recipe(2, 1, 999), recipe(3, 2, 1000, 1, 1))
        self.check(*known, (recipe(2, 1, 1000), [-11]), (recipe(3, 2, 1000), [0]), (recipe(2, 1, 1000), [0]))

    def test_a_plain_article_other_than_the_part(self):
        known = granted(*[article(a) for a in range(1, 6)], recipe(2, 5, 1), recipe(3, 2, 1000), recipe(4, 3, 1000))
        self.check(*known, (recipe(2, 5, 2), [-11]), (recipe(2, 5, 1, 1, 2), [-11]), (recipe(2, 5, 1, 1, 1), [0]),
                   (recipe(2), [0]))

    def test_each_plain_article_alone_is_held_to_the_limit(self):
        self.check(*granted(*[article(a) for a in range(1, 5)], recipe(2, 1, 1000, 4, 1000)), (recipe(3, 2, 1000), [0]))

    def test_a_refused_recipe_leaves_all_measures(self):
        self.check(
            *granted(*[article(a) for a in range(1, 4)], recipe(2, 1, 999), recipe(3, 2, 1000, 1, 1), open_(5)),
            *received(receive(10, 1, 1000000, 4)),
            (recipe(2, 1, 1000), [-11]),
            (issue(5, 3, 1), row((10, 999001))),
            (issue(5, 2, 1), row((10, 999))), (issue(5, 2, 1), [-15]))

    def test_the_greatest_need_of_all(self):
        """A million times a million: more than can ever be there."""
        self.check(*granted(*[article(a) for a in range(1, 4)], recipe(2, 1, 1000), recipe(3, 2, 1000), open_(5)),
                   *received(receive(10, 1, 1000000, 4)),
                   (issue(5, 3, 1000000), [-15]), (issue(5, 3, 2), [-15]), (issue(5, 3, 1), row((10, 1000000))))
