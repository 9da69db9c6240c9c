"""Long mixed runs: the answers against a second telling of the document, and "In all" after every call."""

from collections import Counter

from lotstore.desk import answer_call, answers
from lotstore.store import Store
from tests.audit import audit, snapshot
from tests.caller import WEIGHTS, Caller
from tests.lines import LineCase, is_refused, run
from tests.model import Model


class Ledger:
    """What came in and went where, by the answers alone."""

    def __init__(self):
        self.came = Counter()
        self.gone = Counter()
        self.handed_out = Counter()
        self.held = Counter()

    def note(self, call, answer):
        place, *given = call
        pairs = list(zip(answer[1::2], answer[2::2]))
        if place == 4:
            self.came[given[0]] += given[2]
        if place == 7:
            self.handed_out.update({(lot, given[0]): count for lot, count in pairs})
        if place == 8:
            self.held.update({(lot, given[0]): count for lot, count in pairs})
        if place in (9, 10):
            self.held.subtract({(lot, given[0]): count for lot, count in pairs})
        if place == 9:
            self.handed_out.update({(lot, given[0]): count for lot, count in pairs})
        if place == 11:
            self.handed_out[given[1], given[0]] -= given[2]
        if place == 12:
            self.gone[given[0]] += given[1]
        if place == 13:
            self.gone.update(dict(pairs))
        if place == 14:
            self.came[given[0]] += answer[0] - answer[1]

    def note_dropped(self, threes):
        for session, lot, count in threes:
            self.held[lot, session] -= count

    def of(self, counts, lot):
        return sorted((session, count) for (number, session), count in counts.items() if number == lot and count)

    def free(self, lot):
        out = sum(count for _, count in self.of(self.handed_out, lot) + self.of(self.held, lot))
        return self.came[lot] - self.gone[lot] - out


def two_rows(answer):
    """The two rows of recall's answer."""
    end = 1 + 2 * answer[0]
    used = list(zip(answer[1:end:2], answer[2:end:2]))
    return used, list(zip(answer[end + 1::2], answer[end + 2::2]))


class MixedRunsTest(LineCase):
    def lines(self, kinds, seeds, length=400):
        for kind in kinds:
            for seed in seeds:
                yield Caller(seed, kind).line(length)

    def test_as_the_second_telling(self):
        for line in self.lines(WEIGHTS, range(30)):
            model = Model()
            expected = [model.answer(call) for call in line]
            for got, answer, call in zip(run(line), expected, line):
                self.assertEqual(got, answer, call)

    def test_what_every_call_leaves(self):
        for line in self.lines(WEIGHTS, range(100, 103)):
            store = Store()
            model = Model()
            for call in line:
                before = snapshot(store)
                answer = answer_call(store, call)
                self.assertEqual(answer, model.answer(call))
                if is_refused(answer):
                    self.assertEqual(snapshot(store), before)
                audit(self, store)
            self.check_against_the_book(store, model)

    def check_against_the_book(self, store, model):
        for number, lot in store.lots.items():
            counts = [lot.received, lot.gained, lot.free, sum(lot.held.values()), sum(lot.used.values()), lot.thrown,
                      lot.lost]
            self.assertEqual(counts, model.totals(number))
        thrown = [sum(model.amount(lot, ("thrown", w)) for lot in model.lots) for w in range(1, 10)]
        self.assertEqual(store.thrown_for[1:], thrown)
        self.assertEqual({a: article.least for a, article in store.articles.items()}, model.least)
        self.assertEqual({k for k, session in store.sessions.items() if session.broken}, model.broken)
        self.assertEqual({k for k, session in store.sessions.items() if session.closed}, model.closed)

    def test_nothing_is_lost_by_the_answers(self):
        """At the end each lot is counted, swept and recalled: the answers must fit what the earlier ones told."""
        for line in self.lines(["mixed", "holding"], range(200, 220), 300):
            ledger = Ledger()
            lots = sorted({call[1] for call in line if call[0] == 4})[:33]
            ending = [call for lot in lots for call in ([14, lot, 10 ** 9], [15, lot], [14, lot, 0])]
            for call, answer in zip(line + ending, run(line + ending)):
                if not is_refused(answer):
                    self.check_step(ledger, call, answer)
                    ledger.note(call, answer)

    def check_step(self, ledger, call, answer):
        if call[0] == 0:
            ledger.note_dropped(zip(answer[1::3], answer[2::3], answer[3::3]))
        if call[0] == 12:
            self.assertEqual(answer[0], ledger.free(call[1]) - call[2])
        if call[0] == 14:
            held = sum(count for _, count in ledger.of(ledger.held, call[1]))
            self.assertEqual(answer[0] - answer[1], call[2] - held - ledger.free(call[1]))
        if call[0] == 15:
            used, held = two_rows(answer)
            self.assertEqual(used, ledger.of(ledger.handed_out, call[1]))
            self.assertEqual(held, ledger.of(ledger.held, call[1]))
            ledger.note_dropped([(session, call[1], count) for session, count in held])

    def test_without_the_refused_calls(self):
        for line in self.lines(WEIGHTS, range(300, 315)):
            told = run(line)
            kept = [call for call, answer in zip(line, told) if not is_refused(answer)]
            self.assertEqual(run(kept), [answer for answer in told if not is_refused(answer)])

    def test_the_list_is_the_same_and_the_second_time_as_the_first(self):
        for line in self.lines(WEIGHTS, range(400, 410)):
            handed_in = [number for call in line for number in call]
            before = list(handed_in)
            first = answers(handed_in)
            self.assertEqual(handed_in, before)
            self.assertEqual(answers(handed_in), first)
            self.assertEqual(handed_in, before)

    def test_the_runs_meet_every_answer(self):
        """The runs are of use only while each call is granted now and then, and refused by each number it has."""
        met = {}
        for line in self.lines(WEIGHTS, range(30)):
            for call, answer in zip(line, run(line)):
                met.setdefault(call[0], Counter())[min(answer[0], 0)] += 1
        expected = {0: [-2], 1: [-3], 2: [-4, -9], 3: [-4, -9, -10, -11], 4: [-4, -9, -12, -13, -14], 5: [-3],
                    6: [-6, -7, -18], 7: [-6, -7, -4, -15], 8: [-6, -7, -16, -4, -15], 9: [-6, -7, -16, -17],
                    10: [-6, -7], 11: [-6, -7, -5, -17], 12: [-5, -15], 13: [], 14: [-5, -18], 15: [-5, -13]}
        for place, refusals in expected.items():
            for number in [0, -1, *refusals]:
                self.assertGreater(met[place][number], 0, f"place {place}, {number}")
