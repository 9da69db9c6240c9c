"""The ranges of all arguments, and -1 ahead of every other refusal."""

from tests.lines import (GREATEST_NUMBER, LEAST_NUMBER, LineCase, article, close, day, granted, open_, recall, recallof,
                         receive, received, recipe)

MILLION = 1000000
ARTICLE = (1, MILLION)
LOT = (1, 1000 * MILLION)
SESSION = (1, 1000 * MILLION)
AMOUNT = (1, MILLION)
PIECES = (1, 1000000000 * MILLION)
DAY = (0, MILLION)

# For each place: the ranges of its arguments, and what it answers on an empty store where all are granted.
ON_AN_EMPTY_STORE = {
    0: ([DAY], [0]),
    1: ([ARTICLE, (0, MILLION)], [0]),
    2: ([ARTICLE, (0, MILLION)], [-4]),
    4: ([LOT, ARTICLE, AMOUNT, DAY], [-4]),
    5: ([SESSION], [0]),
    6: ([SESSION], [-6]),
    7: ([SESSION, ARTICLE, AMOUNT], [-6]),
    8: ([SESSION, ARTICLE, AMOUNT], [-6]),
    9: ([SESSION], [-6]),
    10: ([SESSION], [-6]),
    11: ([SESSION, LOT, PIECES], [-6]),
    12: ([LOT, PIECES, (1, 9)], [-5]),
    13: ([(1, 9)], [0]),
    14: ([LOT, (0, 1000 * MILLION)], [-5]),
    15: ([LOT], [-5]),
    16: ([ARTICLE, DAY, DAY], [-4]),
    17: ([ARTICLE, AMOUNT], [-4]),
    18: ([ARTICLE], [-4]),
    19: ([ARTICLE, AMOUNT], [-4]),
    20: ([ARTICLE], [-4]),
    21: ([LOT], [-5]),
    22: ([LOT], [-5]),
    23: ([SESSION], [-6]),
    24: ([SESSION], [-6]),
    25: ([ARTICLE], [-4]),
    26: ([], [0]),
    27: ([DAY], [0]),
    28: ([ARTICLE, AMOUNT], [-4]),
    29: ([], [0] * 9),
    30: ([SESSION], [-6]),
}

# A store on which nearly every call with the numbers 1 and 2 is refused by something.
FURNISHED = [*granted(article(1), article(2), recipe(2, 1, 1), open_(1), open_(2)), (close(1), [0]),
             *received(receive(1, 1, 5, 3)), (recall(1), [0, 0]), (day(4), [0])]


def in_order(call):
    """The call, with recallof's last day as great as its first one where it was less."""
    return call[:3] + [max(call[2:])] if call[0] == 16 else call


def outside(bounds):
    return (bounds[0] - 1, bounds[1] + 1, LEAST_NUMBER, GREATEST_NUMBER, LEAST_NUMBER + 1, GREATEST_NUMBER - 1)


class RangesTest(LineCase):
    def test_the_edges_are_granted(self):
        for place, (ranges, answer) in ON_AN_EMPTY_STORE.items():
            for at, bounds in enumerate(ranges):
                for edge in bounds:
                    call = [place, *[low for low, high in ranges]]
                    call[at + 1] = edge
                    self.check((in_order(call), answer))
            self.check(([place, *[high for low, high in ranges]], answer))

    def test_outside_of_one_range(self):
        for place, (ranges, _) in ON_AN_EMPTY_STORE.items():
            for at, bounds in enumerate(ranges):
                for number in outside(bounds):
                    call = [place, *[low for low, high in ranges]]
                    call[at + 1] = number
                    self.check((call, [-1]))

    def test_an_argument_goes_before_every_other_refusal(self):
        steps = []
        for place, (ranges, _) in ON_AN_EMPTY_STORE.items():
            for at, bounds in enumerate(ranges):
                for number in outside(bounds):
                    for others in (1, 2):
                        call = [place, *[others] * len(ranges)]
                        call[at + 1] = number
                        steps.append((call, [-1]))
        for start in range(0, len(steps), 300):
            self.check(*FURNISHED, *steps[start:start + 300])

    def test_outside_of_all_ranges(self):
        for place, (ranges, _) in ON_AN_EMPTY_STORE.items():
            for number in (LEAST_NUMBER, GREATEST_NUMBER, -1):
                if ranges:
                    self.check(([place, *[number] * len(ranges)], [-1]))


class RecallofRangesTest(LineCase):
    def test_the_first_day_is_not_greater_than_the_last(self):
        for d, e in ((0, 0), (0, 1), (0, MILLION), (5, 5), (5, 6), (MILLION - 1, MILLION), (MILLION, MILLION)):
            self.check((recallof(1, d, e), [-4]))
        for d, e in ((1, 0), (6, 5), (MILLION, 0), (MILLION, MILLION - 1)):
            self.check((recallof(1, d, e), [-1]))

    def test_goes_before_every_other_refusal(self):
        self.check(*FURNISHED, (recallof(2, 1, 0), [-1]), (recallof(2, 1, 1), [-9]), (recallof(9, 1, 0), [-1]),
                   (recallof(9, 0, 0), [-4]), (recallof(1, 1, 0), [-1]), (recallof(1, 0, 0), [0]))


class RecipeRangesTest(LineCase):
    def test_the_article(self):
        self.check((recipe(1), [-4]), (recipe(MILLION), [-4]))
        for number in outside(ARTICLE):
            self.check((recipe(number), [-1]), (recipe(number, 1, 1), [-1]))

    def test_the_edges_are_granted(self):
        self.check((recipe(1, 1, 1), [-4]), (recipe(1, MILLION, 1000), [-4]), (recipe(1, 1, 1000, MILLION, 1), [-4]))

    def test_a_part_outside(self):
        for number in outside(ARTICLE):
            self.check((recipe(1, number, 1), [-1]), (recipe(1, 2, 1, number, 1), [-1]))

    def test_a_count_outside(self):
        for number in outside((1, 1000)):
            self.check((recipe(1, 2, number), [-1]), (recipe(1, 2, 1, 3, number, 4, 1), [-1]))

    def test_every_place_of_the_list_is_looked_at(self):
        good = [number for part in range(2, 18) for number in (part, 1)]
        self.check((recipe(1, *good), [-4]))
        for at in range(32):
            wrong = list(good)
            wrong[at] = 0
            self.check((recipe(1, *wrong), [-1]))

    def test_every_length(self):
        for length in range(98):
            pairs = [number for part in range(2, 52) for number in (part, 1)][:length]
            answer = [-4] if length <= 32 and length % 2 == 0 else [-1]
            self.check((recipe(1, *pairs), answer))

    def test_twice_the_same_part_anywhere(self):
        for first in range(16):
            for second in range(first + 1, 16):
                pairs = [number for part in range(2, 18) for number in (part, 1)]
                pairs[2 * second] = pairs[2 * first]
                self.check((recipe(1, *pairs), [-1]))

    def test_a_number_may_be_a_part_and_a_count(self):
        self.check(*granted(article(1), article(2), article(3)), (recipe(1, 2, 2, 3, 2), [0]),
                   (recipe(1, 2, 3, 3, 2), [0]))

    def test_goes_before_every_other_refusal(self):
        self.check(*FURNISHED, (recipe(1, 1), [-1]), (recipe(1, 1, 0), [-1]), (recipe(1, 1, 1, 1, 1), [-1]),
                   (recipe(9, 9), [-1]), (recipe(2, 2, 1001), [-1]), (recipe(1, LEAST_NUMBER, GREATEST_NUMBER), [-1]))
