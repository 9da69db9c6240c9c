"""Makes long mixed lines of calls in which most calls are granted and every refusal is met now and then."""

import random

from tests.lines import GREATEST_NUMBER, LEAST_NUMBER
from tests.model import Model

# How often each place is called, by the kind of line: the places 0 to 16, which may change something, then the others.
WEIGHTS = {
    "mixed": [4, 2, 1, 3, 22, 3, 1, 18, 14, 6, 4, 12, 4, 2, 5, 2, 1] + [2] * 14,
    "kits": [1, 6, 1, 50, 6, 2, 1, 20, 8, 2, 2, 2, 1, 1, 1, 1, 1] + [6, 4, 6, 1, 1, 1, 1, 1, 4, 3, 1, 1, 1, 1],
    "holding": [9, 1, 1, 1, 26, 3, 1, 6, 34, 5, 4, 3, 2, 2, 6, 3, 3] + [1] * 14,
    "looking": [2, 1, 2, 2, 16, 2, 1, 14, 8, 4, 2, 8, 3, 1, 3, 1, 1] + [6] * 14,
    "strange": [2] * 31,
}
STRANGE = [0, -1, 10, 1000, 1001, 1000000, 1000001, 10 ** 9, 10 ** 9 + 1, 10 ** 15, 10 ** 15 + 1, LEAST_NUMBER,
           GREATEST_NUMBER]


class Caller:
    def __init__(self, seed, kind):
        self.random = random.Random(f"{kind} {seed}")
        self.kind = kind
        self.model = Model()
        self.plain = self.random.choice([2, 4, 8])
        self.articles = self.plain + (14 if kind == "kits" else self.random.choice([1, 3, 6]))
        self.sessions = self.random.choice([2, 5, 9])
        self.greatest = self.random.choice([3, 20, 200])

    def line(self, length):
        """First the articles and some sessions, in some order, then calls of all kinds."""
        calls = [[1, a, 5] for a in range(1, self.articles + 1)] + [[5, k] for k in range(1, self.sessions + 1)]
        self.random.shuffle(calls)
        for call in calls:
            self.model.answer(call)
        while len(calls) < length:
            calls.append(self.call())
            self.model.answer(calls[-1])
        return calls

    def call(self):
        place = self.random.choices(range(31), WEIGHTS[self.kind])[0]
        call = [place, *self.arguments(place)]
        if self.kind == "strange" and len(call) > 1 and self.random.random() < 0.3:
            at = self.random.randrange(1, len(call))
            # How long a list is has to be true.
            call[at] = call[at] if place == 3 and at == 2 else self.random.choice(STRANGE)
        return call

    def seldom(self):
        return self.random.random() < 0.08

    def article(self):
        return self.random.randint(1, self.articles + self.seldom())

    def lot(self):
        return self.random.randint(1, 99) if self.seldom() or not self.model.lots else self.random.choice(self.model.lots)

    def session(self):
        sessions = [k for k in self.model.sessions if k not in self.model.closed]
        return self.random.randint(1, self.sessions + 2) if self.seldom() or not sessions else self.random.choice(sessions)

    def amount(self):
        return self.random.randint(1, self.greatest)

    def lot_and_article_and_last_day(self):
        if self.random.random() < 0.4 or not self.model.lots:
            return self.random.randint(1, 99), self.random.randint(1, self.plain), self.model.day + self.random.randint(0, 9)
        lot = self.lot()
        article, last_day = self.model.lot_facts.get(lot, (1, self.model.day))
        return lot, self.article() if self.seldom() else article, last_day + self.seldom()

    def parts(self, a):
        few = self.random.sample(range(1, self.articles + 1), self.random.randint(0, min(5, self.articles)))
        # Kits of smaller numbers alone have no ring.
        few = [part for part in few if part < a or self.seldom()]
        count = self.random.choice([2, 2, 30, 1000]) if self.kind == "kits" else 3
        return [number for part in few for number in (part, self.random.randint(1, count))]

    def arguments(self, place):
        if place == 0:
            return [self.model.day + self.random.choice([0, 1, 1, 2, 5, -1])]
        if place in (1, 2):
            return [self.article(), self.random.randint(0, 50)]
        if place == 3:
            a = self.random.randint(1 if self.seldom() else self.plain + 1, self.articles + self.seldom())
            parts = self.parts(a)
            return [a, len(parts), *parts]
        if place == 4:
            lot, article, last_day = self.lot_and_article_and_last_day()
            return [lot, article, self.amount() * 5, last_day]
        if place == 5:
            return [self.random.randint(1, 30)]
        if place in (6, 9, 10):
            return [self.session()]
        if place in (7, 8):
            return [self.session(), self.article(), self.amount()]
        if place == 11:
            return self.something_used()
        if place == 12:
            return [self.lot(), self.amount(), self.random.randint(1, 9)]
        if place == 13:
            return [self.random.randint(1, 9)]
        if place == 14:
            return [self.lot(), self.amount() * 2]
        if place == 15:
            return [self.lot()]
        if place == 16:
            return [self.article(), *self.some_days()]
        return self.looking_arguments(place)

    def looking_arguments(self, place):
        if place in (17, 19, 28):
            return [self.article(), self.amount()]
        if place in (18, 20, 25):
            return [self.article()]
        if place in (21, 22):
            return [self.lot()]
        if place in (23, 24, 30):
            return [self.random.randint(1, 30) if self.seldom() else self.random.choice(self.model.sessions)]
        return [self.random.randint(0, 12)] if place == 27 else []

    def some_days(self):
        first = max(0, self.model.day - self.random.randint(0, 12))
        return [first, first + self.random.randint(-1, 3)]

    def something_used(self):
        used = [(lot, place[1], count) for (lot, place), count in self.model.book.items() if place[0] == "used" and count]
        if self.seldom() or not used:
            return [self.session(), self.lot(), self.amount()]
        lot, session, count = self.random.choice(used)
        return [session, lot, count if self.random.random() < 0.3 else self.random.randint(1, count + 1)]
