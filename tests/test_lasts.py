"""Point 28: lasts."""

import random

from tests.lines import (LineCase, article, count, day, granted, issue, lasts, lot, open_, recall, receive, received,
                         recipe,
                         release, reserve, row, run, shelf, take, throw, unused)
from tests.model import Model

KNOWN = granted(article(1), article(2), article(3), recipe(3, 2, 1), open_(9))
FAR = 1000000


class LastsTest(LineCase):
    def lots(self, *told):
        """Steps of lots of article 1, each told by its number, count and last day."""
        return [*KNOWN, *received(*[receive(number, 1, amount, last) for number, amount, last in told])]

    def test_one_lot(self):
        self.check(*self.lots((10, 10, FAR)), (lasts(1, 3), [3, 0]), (lasts(1, 5), [2, 0]), (lasts(1, 1), [10, 0]),
                   (lasts(1, 10), [1, 0]))

    def test_over_for_want_on_the_first_day(self):
        self.check(*KNOWN, (lasts(1, 1), [0, 0]), *received(receive(10, 1, 4, FAR), receive(20, 2, 9, FAR)),
                   (lasts(1, 5), [0, 0]), (lasts(1, 1000000), [0, 0]), (lasts(1, 4), [1, 0]), (lasts(2, 5), [1, 0]))

    def test_over_on_the_first_day_with_a_short_last_day(self):
        self.check(*self.lots((10, 4, 0)), (lasts(1, 5), [0, 0]), (lasts(1, 4), [1, 0]), (lasts(1, 3), [1, 1]),
                   (lasts(1, 1), [1, 3]))

    def test_something_is_spoiled_on_the_day_on_which_it_is_over(self):
        self.check(*self.lots((10, 10, 2)), (lasts(1, 3), [3, 1]), (lasts(1, 2), [3, 4]), (lasts(1, 1), [3, 7]),
                   (lasts(1, 4), [2, 0]), (lasts(1, 5), [2, 0]))

    def test_what_is_left_over_for_want_is_not_spoiled(self):
        self.check(*self.lots((10, 4, 2), (11, 4, 3)), (lasts(1, 3), [2, 0]), (lasts(1, 2), [4, 0]),
                   (lasts(1, 1), [4, 4]),
                   (lasts(1, 5), [1, 0]), (lasts(1, 8), [1, 0]), (lasts(1, 9), [0, 0]))

    def test_the_smaller_last_day_is_taken_first(self):
        self.check(*self.lots((10, 50, 9), (11, 6, 1)), (lasts(1, 4), [10, 16]), (lasts(1, 3), [10, 26]),
                   (lasts(1, 2), [10, 36]), (lasts(1, 1), [10, 46]), (lasts(1, 7), [8, 0]), (lasts(1, 6), [9, 0]))

    def test_spoiled_on_several_days(self):
        self.check(*self.lots((10, 100, 2), (11, 100, 4), (12, 5, 10)), (lasts(1, 3), [6, 91 + 94]),
                   (lasts(1, 40), [5, 0]), (lasts(1, 20), [5, 40 + 60]), (lasts(1, 2), [7, 94 + 96]))

    def test_a_lot_of_which_none_is_ever_taken(self):
        """The lot with the same last day that came first is taken alone; the other one is spoiled whole."""
        self.check(*self.lots((10, 100, 2), (11, 7, 2), (12, 8, 3)), (lasts(1, 4), [4, 88 + 7 + 4]))

    def test_lots_with_the_same_last_day(self):
        self.check(*self.lots((12, 5, 3), (10, 5, 3), (11, 5, 3)), (lasts(1, 2), [4, 7]), (lasts(1, 4), [3, 0]),
                   (lasts(1, 7), [2, 0]), (lasts(1, 3), [4, 3]))

    def test_from_the_stores_day_on(self):
        self.check(*self.lots((10, 100, 9), (11, 100, 5)), (lasts(1, 20), [10, 0]), (lasts(1, 10), [10, 100]),
                   (day(4), [0]), (lasts(1, 10), [6, 140]), (day(5), [0]), (lasts(1, 10), [5, 150]), (day(6), [0]),
                   (lasts(1, 10), [4, 60]), (day(9), [0]), (lasts(1, 10), [1, 90]), (day(10), [0]),
                   (lasts(1, 10), [0, 0]))

    def test_at_the_last_of_all_days(self):
        self.check(*self.lots((10, 100, FAR)), (day(FAR - 1), [0]), (lasts(1, 1), [2, 98]), (day(FAR), [0]),
                   (lasts(1, 1), [1, 99]), (lasts(1, 100), [1, 0]))

    def test_just_3650_days(self):
        self.check(*self.lots((10, 3649, FAR)), (lasts(1, 1), [3649, 0]), (receive(10, 1, 1, FAR), [3650]),
                   (lasts(1, 1), [3650, 0]), (receive(10, 1, 1, FAR), [3651]), (lasts(1, 1), [3650, 0]),
                   (receive(10, 1, 3648, FAR), [7299]), (lasts(1, 2), [3649, 0]), (receive(10, 1, 1, FAR), [7300]),
                   (lasts(1, 2), [3650, 0]), (receive(10, 1, 1000000, FAR), [1007300]), (lasts(1, 2), [3650, 0]))

    def test_nothing_is_spoiled_after_3650_days(self):
        self.check(*self.lots((10, 5000, 3650)), (lasts(1, 1), [3650, 0]))
        self.check(*self.lots((10, 5000, 3649)), (lasts(1, 1), [3650, 0]))
        self.check(*self.lots((10, 5000, 3648)), (lasts(1, 1), [3649, 1351]))
        self.check(*self.lots((10, 5000, 3648), (11, 5, FAR)), (lasts(1, 1), [3650, 1351]))
        self.check(*self.lots((10, 5000, 3648), (11, 5, 3649), (12, 5, 3649)), (lasts(1, 1), [3650, 1351]))
        self.check(*self.lots((10, 5000, 3647), (11, 5, 3648), (12, 5, 3649)), (lasts(1, 1), [3650, 1352 + 4]))

    def test_3650_days_from_a_later_day(self):
        self.check(*KNOWN, (day(100), [0]), *received(receive(10, 1, 5000, 3749), receive(11, 1, 70, 101)),
                   (lasts(1, 1), [3650, 68]), (recall(11), [0, 0]), (lasts(1, 1), [3650, 0]), (day(101), [0]),
                   (lasts(1, 1), [3649, 1351]))

    def test_only_what_is_free_and_good(self):
        self.check(*self.lots((10, 10, 8), (11, 10, 3)), (lasts(1, 2), [9, 2]), (reserve(9, 1, 4), row((11, 4))),
                   (lasts(1, 2), [8, 0]), (take(9), row((11, 4))), (lasts(1, 2), [8, 0]), (unused(9, 11, 4), [0]),
                   (lasts(1, 2), [9, 2]), (throw(11, 8), [2]), (lasts(1, 2), [6, 0]), (recall(11), [0, 0]),
                   (lasts(1, 2), [5, 0]), (count(10, 5), [0, 5]), (lasts(1, 2), [2, 0]), (issue(9, 1, 1), row((10, 1))),
                   (reserve(9, 1, 3), row((10, 3))), (lasts(1, 1), [1, 0]), (release(9), row((10, 3))),
                   (lasts(1, 1), [4, 0]),
                   (day(8), [0]), (lasts(1, 1), [1, 3]), (day(9), [0]), (lasts(1, 1), [0, 0]))

    def test_it_is_played_only(self):
        self.check(*self.lots((10, 10, 2)), (lasts(1, 1), [3, 7]), (lot(10), [1, 2, 0, 10, 0, 10, 0, 0, 0, 0, 0]),
                   (shelf(1), [10, 10, 0, 0]), (lasts(1, 1), [3, 7]), (day(0), [0]))

    def test_great_numbers(self):
        self.check(*self.lots((10, 1000000, 5), (11, 1000000, 5)), (lasts(1, 1000000), [2, 0]),
                   (lasts(1, 999999), [2, 0]),
                   (lasts(1, 333333), [6, 2]), (lasts(1, 1), [6, 1999994]))

    def test_256_lots(self):
        lots = [(number, 3, number - 1) for number in range(256, 0, -1)]
        self.check(*self.lots(*lots), (lasts(1, 3), [256, 0]), (lasts(1, 2), [256, 256]), (lasts(1, 1), [256, 512]),
                   (lasts(1, 4), [192, 0]))

    def test_refusals(self):
        self.check(*self.lots((10, 10, 2)), (lasts(4, 1), [-4]), (lasts(3, 1), [-9]), (lasts(3, 0), [-1]),
                   (lasts(4, 0), [-1]),
                   (lasts(1, 0), [-1]), (lasts(1, 1000001), [-1]), (lasts(0, 1), [-1]), (lasts(1000001, 1), [-1]),
                   (lasts(1000000, 1000000), [-4]))


class DayByDayTest(LineCase):
    """Held against the model, which plays one day after another."""

    def line(self, chance, amounts, spans, wanted):
        begin = chance.choice([0, 0, 5, 990000])
        calls = [article(1), day(begin)]
        for number in range(1, chance.randint(2, 9)):
            calls.append(receive(number, 1, chance.randint(1, amounts), min(begin + chance.choice(spans), 1000000)))
        return calls + [lasts(1, q) for q in wanted]

    def check_lines(self, seed, times, amounts, spans, wanted):
        chance = random.Random(seed)
        for _ in range(times):
            calls = self.line(chance, amounts, spans, wanted)
            model = Model()
            self.assertEqual(run(calls), [model.answer(call) for call in calls], calls)

    def test_few_days(self):
        self.check_lines("few", 400, 30, range(12), range(1, 40))

    def test_around_3650_days(self):
        spans = [2, 1000, *range(3640, 3660), 3648, 3649, 3650, 3651, 10000]
        self.check_lines("many", 25, 4000, spans, (1, 2, 3, 5))

    def test_all_used_up_around_3650_days(self):
        spans = [1000, 3647, 3648, 3649, 3650, 3651, 5000]
        self.check_lines("used up", 40, 912, spans, (1,))
