"""A second, slow telling of the document: an account book in which every piece moves from place to place."""

from collections import Counter

CAME, GAINED, FREE, LOST = "came", "gained", "free", "lost"
MILLION = 1000000
BOUNDS = {"d": (0, MILLION), "a": (1, MILLION), "s": (0, MILLION), "l": (1, 1000 * MILLION), "k": (1, 1000 * MILLION),
          "n": (1, MILLION), "e": (0, MILLION), "p": (1, 10 ** 15), "w": (1, 9), "m": (0, 10 ** 9)}
LETTERS = ["d", "as", "as", "a", "lane", "k", "k", "kan", "kan", "k", "k", "klp", "lpw", "w", "lm", "l",
           "ade", "an", "a", "an", "a", "l", "l", "k", "k", "a", "", "d", "an", "", "k"]


class Refused(Exception):
    """Carries the refusal's number."""


def refuse(due, number):
    if due:
        raise Refused(number)


class Model:
    def __init__(self):
        self.day = 0
        self.least = {}
        self.recipes = {}
        self.lots = []
        self.lot_facts = {}
        self.first_days = {}
        self.called_back = set()
        self.sessions = []
        self.closed = set()
        self.broken = set()
        self.book = Counter()

    def answer(self, call):
        place, *numbers = call
        try:
            self.check_ranges(place, numbers)
            if place == 3:
                return self.recipe(numbers[0], numbers[2:])
            return [self.set_day, self.article, self.set_least, None, self.receive, self.open, self.close, self.issue,
                    self.reserve, self.take, self.release, self.unused, self.throw, self.sweep, self.count,
                    self.recall, self.recallof, self.tell_need, self.able, self.short, self.shelf, self.lot, self.who,
                    self.uses, self.held, self.parts, self.low, self.soon, self.lasts, self.reasons,
                    self.cluster][place](*numbers)
        except Refused as refused:
            return [refused.args[0]]

    def check_ranges(self, place, numbers):
        for letter, number in zip(LETTERS[place], numbers):
            low, high = BOUNDS[letter]
            refuse(number < low or number > high, -1)
        refuse(place == 16 and numbers[1] > numbers[2], -1)
        if place == 3:
            parts = numbers[2:]
            refuse(len(parts) % 2 == 1 or len(parts) > 32, -1)
            refuse(any(not 1 <= part <= MILLION for part in parts[::2]), -1)
            refuse(any(not 1 <= count <= 1000 for count in parts[1::2]), -1)
            refuse(max(Counter(parts[::2]).values(), default=0) > 1, -1)

    def move(self, lot, source, target, count):
        self.book[lot, source] -= count
        self.book[lot, target] += count

    def amount(self, lot, place):
        return self.book[lot, place]

    def good(self, lot):
        return lot not in self.called_back and self.lot_facts[lot][1] >= self.day

    def shares(self, kind, lot):
        """The sessions in their order with what is held for them of the lot, or what they used."""
        return [(k, self.amount(lot, (kind, k))) for k in sorted(self.sessions) if self.amount(lot, (kind, k))]

    def belongings(self, kind, k):
        return [(lot, self.amount(lot, (kind, k))) for lot in self.lots if self.amount(lot, (kind, k))]

    def drop(self, lot):
        dropped = self.shares("held", lot)
        for k, count in dropped:
            self.move(lot, ("held", k), FREE, count)
            self.broken.add(k)
        return dropped

    def set_day(self, d):
        refuse(d < self.day, -2)
        self.day = d
        old = [lot for lot in self.lots if self.lot_facts[lot][1] < d]
        return told([(k, lot, count) for lot in old for k, count in self.drop(lot)])

    def article(self, a, m):
        refuse(a in self.least, -3)
        refuse(len(self.least) == 64, -8)
        self.least[a] = m
        self.recipes[a] = []
        return [0]

    def want_plain(self, a):
        refuse(a not in self.least, -4)
        refuse(self.recipes[a], -9)

    def set_least(self, a, m):
        self.want_plain(a)
        self.least[a] = m
        return [0]

    def below(self, a):
        found = set()
        for part, _ in self.recipes[a]:
            found |= {part} | self.below(part)
        return found

    def depth(self, a):
        return max([1 + self.depth(part) for part, _ in self.recipes[a]], default=0)

    def size(self, a):
        return 1 + sum(self.size(part) for part, _ in self.recipes[a])

    def need(self, a, n):
        if not self.recipes[a]:
            return Counter({a: n})
        return sum((self.need(part, n * count) for part, count in self.recipes[a]), Counter())

    def recipe(self, a, numbers):
        parts = list(zip(numbers[::2], numbers[1::2]))
        refuse(any(each not in self.least for each in [a] + numbers[::2]), -4)
        refuse(a in [facts[0] for facts in self.lot_facts.values()], -9)
        refuse(any(part == a or a in self.below(part) for part, _ in parts), -10)
        before = self.recipes[a]
        self.recipes[a] = parts
        if any(self.too_great(each) for each in self.recipes):
            self.recipes[a] = before
            raise Refused(-11)
        return [0]

    def too_great(self, a):
        return self.depth(a) > 8 or self.size(a) > 256 or max(self.need(a, 1).values()) > MILLION

    def receive(self, l, a, n, e):
        self.want_plain(a)
        if l in self.lots:
            refuse(self.lot_facts[l] != (a, e), -12)
            refuse(l in self.called_back, -13)
        refuse(e < self.day, -14)
        refuse(l not in self.lots and len(self.lots) == 256, -8)
        refuse(n - self.amount(l, CAME) > 10 ** 9, -8)
        if l not in self.lots:
            self.lots.append(l)
            self.lot_facts[l] = (a, e)
            self.first_days[l] = self.day
        self.move(l, CAME, FREE, n)
        return [-self.amount(l, CAME)]

    def open(self, k):
        refuse(k in self.sessions, -3)
        refuse(len(self.sessions) == 128, -8)
        self.sessions.append(k)
        return [0]

    def want_session(self, k):
        refuse(k not in self.sessions, -6)
        refuse(k in self.closed, -7)

    def close(self, k):
        self.want_session(k)
        refuse(self.belongings("held", k), -18)
        self.closed.add(k)
        self.broken.discard(k)
        return [sum(count for _, count in self.belongings("used", k))]

    def lots_of(self, a):
        return [lot for lot in self.lots if self.lot_facts[lot][0] == a]

    def there(self, a):
        return sum(self.amount(lot, FREE) for lot in self.lots_of(a) if self.good(lot))

    def hand_out(self, kind, k, a, n):
        refuse(a not in self.least, -4)
        need = self.need(a, n)
        refuse(any(self.there(plain) < count for plain, count in need.items()), -15)
        picked = []
        for plain in sorted(need):
            for _, _, lot in sorted((self.lot_facts[lot][1], at, lot) for at, lot in enumerate(self.lots)
                                    if self.lot_facts[lot][0] == plain and self.good(lot)):
                count = min(self.amount(lot, FREE), need[plain])
                need[plain] -= count
                self.move(lot, FREE, (kind, k), count)
                picked += [(lot, count)] if count else []
        return told(picked)

    def issue(self, k, a, n):
        self.want_session(k)
        return self.hand_out("used", k, a, n)

    def reserve(self, k, a, n):
        self.want_session(k)
        refuse(k in self.broken, -16)
        return self.hand_out("held", k, a, n)

    def take(self, k):
        self.want_session(k)
        refuse(k in self.broken, -16)
        taken = self.belongings("held", k)
        refuse(not taken, -17)
        for lot, count in taken:
            self.move(lot, ("held", k), ("used", k), count)
        return told(taken)

    def release(self, k):
        self.want_session(k)
        released = self.belongings("held", k)
        for lot, count in released:
            self.move(lot, ("held", k), FREE, count)
        self.broken.discard(k)
        return told(released)

    def unused(self, k, l, n):
        self.want_session(k)
        refuse(l not in self.lots, -5)
        refuse(self.amount(l, ("used", k)) < n, -17)
        self.move(l, ("used", k), FREE, n)
        return [self.amount(l, ("used", k))]

    def throw(self, l, n, w):
        refuse(l not in self.lots, -5)
        refuse(self.amount(l, FREE) < n, -15)
        self.move(l, FREE, ("thrown", w), n)
        return [self.amount(l, FREE)]

    def sweep(self, w):
        swept = [(lot, self.amount(lot, FREE)) for lot in self.lots if not self.good(lot) and self.amount(lot, FREE)]
        for lot, count in swept:
            self.move(lot, FREE, ("thrown", w), count)
        return told(swept)

    def count(self, l, m):
        refuse(l not in self.lots, -5)
        held = sum(count for _, count in self.shares("held", l))
        refuse(m < held, -18)
        change = m - held - self.amount(l, FREE)
        refuse(change > 0 and change - self.amount(l, GAINED) > 10 ** 15, -8)
        self.move(l, GAINED if change > 0 else FREE, FREE if change > 0 else LOST, abs(change))
        return [max(change, 0), max(-change, 0)]

    def recall(self, l):
        refuse(l not in self.lots, -5)
        refuse(l in self.called_back, -13)
        used = self.shares("used", l)
        self.called_back.add(l)
        return told(used) + told(self.drop(l))

    def recallof(self, a, d, e):
        self.want_plain(a)
        came = [lot for lot in self.lots_of(a) if self.first_days[lot] in range(d, e + 1)]
        called = [lot for lot in came if lot not in self.called_back]
        for lot in called:
            self.drop(lot)
            self.called_back.add(lot)
        return told([(lot,) for lot in called])

    def tell_need(self, a, n):
        refuse(a not in self.least, -4)
        return told(sorted(self.need(a, n).items()))

    def able(self, a):
        """Halves the span in which the greatest number lies."""
        refuse(a not in self.least, -4)
        low, high = 0, MILLION
        while low < high:
            middle = (low + high + 1) // 2
            enough = all(self.there(plain) >= count for plain, count in self.need(a, middle).items())
            low, high = (middle, high) if enough else (low, middle - 1)
        return [low]

    def short(self, a, n):
        refuse(a not in self.least, -4)
        missing = self.need(a, n) - Counter({plain: self.there(plain) for plain in self.least})
        return told(sorted(missing.items()))

    def shelf(self, a):
        self.want_plain(a)
        totals = [self.totals(lot) for lot in self.lots_of(a)]
        return [self.there(a)] + [sum(counts[at] for counts in totals) for at in (2, 3, 4)]

    def lot(self, l):
        refuse(l not in self.lots, -5)
        return [*self.lot_facts[l], self.first_days[l], *self.totals(l), int(l in self.called_back)]

    def who(self, l):
        refuse(l not in self.lots, -5)
        return told(self.shares("used", l))

    def uses(self, k):
        refuse(k not in self.sessions, -6)
        return told(self.belongings("used", k))

    def held(self, k):
        refuse(k not in self.sessions, -6)
        return [int(k in self.closed), int(k in self.broken), *told(self.belongings("held", k))]

    def parts(self, a):
        refuse(a not in self.least, -4)
        return [self.least[a], *told(self.recipes[a])]

    def low(self):
        wanted = Counter({a: self.least[a] - self.there(a) for a in self.least if not self.recipes[a]})
        return told(sorted((+wanted).items()))

    def soon(self, d):
        spans = [(self.lot_facts[lot][1], at, lot) for at, lot in enumerate(self.lots) if self.good(lot)]
        near = [(lot, last, self.amount(lot, FREE)) for last, _, lot in sorted(spans) if last - self.day <= d]
        return told([three for three in near if three[2]])

    def lasts(self, a, q):
        """Plays the days one after another."""
        self.want_plain(a)
        left = sorted([self.lot_facts[lot][1], at, self.amount(lot, FREE)] for at, lot in enumerate(self.lots)
                      if lot in self.lots_of(a) and self.good(lot))
        spoiled = 0
        for days in range(3650):
            spoiled += sum(count for last, _, count in left if last < self.day + days)
            left = [share for share in left if share[0] >= self.day + days and share[2]]
            if sum(count for _, _, count in left) < q:
                return [days, spoiled]
            wanted = q
            for share in left:
                count = min(share[2], wanted)
                share[2] -= count
                wanted -= count
        return [3650, spoiled]

    def reasons(self):
        return [sum(self.amount(lot, ("thrown", w)) for lot in self.lots) for w in range(1, 10)]

    def cluster(self, k):
        """Joins whole lots until nothing more is joined."""
        refuse(k not in self.sessions, -6)
        found = {k}
        users = [{session for session, _ in self.shares("used", lot)} for lot in self.lots]
        while any(group & found and group - found for group in users):
            found = found.union(*[group for group in users if group & found])
        return told([(session,) for session in sorted(found)])

    def totals(self, lot):
        """Received, gained, free, held, used, thrown away and lost, as the book tells them."""
        sums = Counter()
        for (number, place), count in self.book.items():
            if number == lot:
                sums[place[0] if isinstance(place, tuple) else place] += count
        return [-sums[CAME], -sums[GAINED], sums[FREE], sums["held"], sums["used"], sums["thrown"], sums[LOST]]


def told(members):
    return [len(members)] + [number for member in members for number in member]
