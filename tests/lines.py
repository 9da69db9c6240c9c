"""Lines of calls for the tests: how calls are written, and what is checked of every line."""

import unittest

from lotstore.desk import answer_call, answers
from lotstore.store import Store
from tests.audit import audit, snapshot

LEAST_NUMBER = -9223372036854775808
GREATEST_NUMBER = 9223372036854775807


def day(d):
    return [0, d]


def article(a, m=0):
    return [1, a, m]


def least(a, m):
    return [2, a, m]


def recipe(a, *parts):
    return [3, a, len(parts), *parts]


def receive(l, a, n, e):
    return [4, l, a, n, e]


def open_(k):
    return [5, k]


def close(k):
    return [6, k]


def issue(k, a, n):
    return [7, k, a, n]


def reserve(k, a, n):
    return [8, k, a, n]


def take(k):
    return [9, k]


def release(k):
    return [10, k]


def unused(k, l, n):
    return [11, k, l, n]


def throw(l, n, w=1):
    return [12, l, n, w]


def sweep(w=1):
    return [13, w]


def count(l, m):
    return [14, l, m]


def recall(l):
    return [15, l]


def recallof(a, d=0, e=1000000):
    return [16, a, d, e]


def need(a, n):
    return [17, a, n]


def able(a):
    return [18, a]


def short(a, n):
    return [19, a, n]


def shelf(a):
    return [20, a]


def lot(l):
    return [21, l]


def who(l):
    return [22, l]


def uses(k):
    return [23, k]


def held(k):
    return [24, k]


def parts(a):
    return [25, a]


def low():
    return [26]


def soon(d):
    return [27, d]


def lasts(a, q):
    return [28, a, q]


def reasons():
    return [29]


def cluster(k):
    return [30, k]


def row(*members):
    """The row of these members, each a tuple of numbers."""
    return [len(members), *[number for member in members for number in member]]


def granted(*calls):
    """Steps of calls that are answered by 0."""
    return [(call, [0]) for call in calls]


def received(*calls):
    """Steps of lots that come for the first time."""
    return [(call, [call[3]]) for call in calls]


def run(calls):
    """The answers of these calls, a list each, from one list handed in."""
    flat = [number for call in calls for number in call]
    told = answers(flat)
    split = []
    start = 0
    while start < len(told):
        end = start + 1 + told[start]
        split.append(told[start + 1:end])
        start = end
    return split


def is_refused(answer):
    return answer[0] < 0


def changes_nothing(call, answer):
    return call[0] > 16 or is_refused(answer)


class LineCase(unittest.TestCase):
    """Tests of lines; a step is a call and its whole answer."""

    maxDiff = None

    def check(self, *steps):
        """Checks the answers, and what holds of every line, whatever it is; gives back the store at its end."""
        steps = list(steps)
        calls = [call for call, answer in steps]
        for at, (got, (call, answer)) in enumerate(zip(run(calls), steps)):
            self.assertEqual(got, answer, f"step {at}, {call}")
        self.assertEqual(len(run(calls)), len(steps))
        self.check_left_out(steps)
        return self.check_step_by_step(steps)

    def check_left_out(self, steps):
        """Without the refused calls, and without all that change nothing, the others are answered the same."""
        not_refused = [(call, answer) for call, answer in steps if not is_refused(answer)]
        changing = [(call, answer) for call, answer in not_refused if not changes_nothing(call, answer)]
        for kept in (not_refused, changing):
            self.assertEqual(run([call for call, answer in kept]), [answer for call, answer in kept])

    def check_step_by_step(self, steps):
        store = Store()
        for call, answer in steps:
            before = snapshot(store)
            self.assertEqual(answer_call(store, list(call)), answer)
            audit(self, store)
            if changes_nothing(call, answer):
                self.assertEqual(snapshot(store), before, f"{call} answered by {answer} changes nothing")
        return store
