"""Long mixed runs: the answers against a second telling of the document, and "In all" after every call."""

from collections import Counter

from lotstore.desk import answer_call, answers
from lotstore.store import Store
from tests.audit import audit, snapshot
from tests.caller import WEIGHTS, Caller
from tests.lines import LineCase, changes_nothing, is_refused, run
from tests.model import Model


class Ledger:
    """What came in and went where, by the answers alone."""

    def __init__(self):
        self.came = Counter()
        self.gone = Counter()
        self.handed_out = Counter()
        self.held = Counter()
        self.thrown_for = Counter()
        self.called_back = set()
        self.last_days = {}
        self.day = 0

    def note(self, call, answer):
        place, *given = call
        pairs = pairs_of(answer)
        if place == 0:
            self.day = given[0]
            self.note_dropped(zip(answer[1::3], answer[2::3], answer[3::3]))
        if place == 4:
            self.came[given[0]] += given[2]
            self.last_days[given[0]] = given[3]
        if place == 7:
            self.handed_out.update({(lot, given[0]): count for lot, count in pairs})
        if place == 8:
            self.held.update({(lot, given[0]): count for lot, count in pairs})
        if place in (9, 10):
            self.held.subtract({(lot, given[0]): count for lot, count in pairs})
        if place == 9:
            self.handed_out.update({(lot, given[0]): count for lot, count in pairs})
        if place == 11:
            self.handed_out[given[1], given[0]] -= given[2]
        if place == 12:
            self.gone[given[0]] += given[1]
            self.thrown_for[given[2]] += given[1]
        if place == 13:
            self.gone.update(dict(pairs))
            self.thrown_for[given[0]] += sum(count for lot, count in pairs)
        if place == 14:
            self.came[given[0]] += answer[0] - answer[1]
        if place in (15, 16):
            called = [given[0]] if place == 15 else answer[1:]
            self.called_back.update(called)
            self.note_dropped([(session, lot, count) for lot in called for session, count in self.of(self.held, lot)])

    def note_dropped(self, threes):
        for session, lot, count in threes:
            self.held[lot, session] -= count

    def of(self, counts, lot):
        return sorted((session, count) for (number, session), count in counts.items() if number == lot and count)

    def by(self, counts, session):
        return sorted((lot, count) for (lot, number), count in counts.items() if number == session and count)

    def joined(self, session):
        found = {session}
        waiting = [session]
        while waiting:
            for lot, _ in self.by(self.handed_out, waiting.pop()):
                fresh = {other for other, _ in self.of(self.handed_out, lot)} - found
                found |= fresh
                waiting.extend(fresh)
        return sorted(found)

    def free(self, lot):
        out = sum(count for _, count in self.of(self.handed_out, lot) + self.of(self.held, lot))
        return self.came[lot] - self.gone[lot] - out


def pairs_of(answer):
    """The pairs of a row that has nothing behind it."""
    return list(zip(answer[1::2], answer[2::2]))


def two_rows(answer):
    """The two rows of recall's answer."""
    end = 1 + 2 * answer[0]
    return pairs_of(answer[:end]), pairs_of(answer[end:])


class MixedRunsTest(LineCase):
    def lines(self, kinds, seeds, length=400):
        for kind in kinds:
            for seed in seeds:
                yield Caller(seed, kind).line(length)

    def test_as_the_second_telling(self):
        for line in self.lines(WEIGHTS, range(30)):
            model = Model()
            expected = [model.answer(call) for call in line]
            for got, answer, call in zip(run(line), expected, line):
                self.assertEqual(got, answer, call)

    def test_what_every_call_leaves(self):
        for line in self.lines(WEIGHTS, range(100, 103)):
            store = Store()
            model = Model()
            for call in line:
                before = snapshot(store)
                answer = answer_call(store, call)
                self.assertEqual(answer, model.answer(call))
                if changes_nothing(call, answer):
                    self.assertEqual(snapshot(store), before, call)
                audit(self, store)
            self.check_against_the_book(store, model)

    def check_against_the_book(self, store, model):
        for number, lot in store.lots.items():
            counts = [lot.received, lot.gained, lot.free, sum(lot.held.values()), sum(lot.used.values()), lot.thrown,
                      lot.lost]
            self.assertEqual(counts, model.totals(number))
        thrown = [sum(model.amount(lot, ("thrown", w)) for lot in model.lots) for w in range(1, 10)]
        self.assertEqual(store.thrown_for[1:], thrown)
        self.assertEqual({a: article.least for a, article in store.articles.items()}, model.least)
        self.assertEqual({k for k, session in store.sessions.items() if session.broken}, model.broken)
        self.assertEqual({k for k, session in store.sessions.items() if session.closed}, model.closed)

    def test_nothing_is_lost_by_the_answers(self):
        """The answers must fit what the earlier ones told; at the end each lot is told, counted and recalled."""
        for line in self.lines(["mixed", "holding", "looking"], range(200, 215), 300):
            ledger = Ledger()
            lots = sorted({call[1] for call in line if call[0] == 4})[:20]
            ending = [call for lot in lots
                      for call in ([21, lot], [14, lot, 10 ** 9], [15, lot], [21, lot], [14, lot, 0])]
            for call, answer in zip(line + ending, run(line + ending)):
                if not is_refused(answer):
                    self.check_step(ledger, call, answer)
                    ledger.note(call, answer)

    def check_step(self, ledger, call, answer):
        place, *given = call
        if place in (7, 8, 9):
            for lot, _ in pairs_of(answer):
                self.assertNotIn(lot, ledger.called_back)
                self.assertLessEqual(ledger.day, ledger.last_days[lot])
        if place == 12:
            self.assertEqual(answer[0], ledger.free(given[0]) - given[1])
        if place == 14:
            held = sum(count for _, count in ledger.of(ledger.held, given[0]))
            self.assertEqual(answer[0] - answer[1], given[1] - held - ledger.free(given[0]))
        if place == 15:
            used, held = two_rows(answer)
            self.assertEqual(used, ledger.of(ledger.handed_out, given[0]))
            self.assertEqual(held, ledger.of(ledger.held, given[0]))
        if place == 21:
            self.check_lot(ledger, given[0], answer)
        if place == 22:
            self.assertEqual(pairs_of(answer), ledger.of(ledger.handed_out, given[0]))
        if place == 23:
            self.assertEqual(sorted(pairs_of(answer)), ledger.by(ledger.handed_out, given[0]))
        if place == 24:
            self.assertEqual(sorted(pairs_of(answer[2:])), ledger.by(ledger.held, given[0]))
        if place == 29:
            self.assertEqual(answer, [ledger.thrown_for[reason] for reason in range(1, 10)])
        if place == 30:
            self.assertEqual(answer[1:], ledger.joined(given[0]))

    def check_lot(self, ledger, lot, answer):
        received, gained, free, held, used, thrown, lost, called_back = answer[3:]
        self.assertEqual(received + gained, free + held + used + thrown + lost)
        self.assertEqual(received + gained - lost, ledger.came[lot])
        self.assertEqual(free, ledger.free(lot))
        self.assertEqual(held, sum(count for _, count in ledger.of(ledger.held, lot)))
        self.assertEqual(used, sum(count for _, count in ledger.of(ledger.handed_out, lot)))
        self.assertEqual(thrown, ledger.gone[lot])
        self.assertEqual(called_back == 1, lot in ledger.called_back)

    def test_the_looks_agree(self):
        """Who, uses and recall tell the same of each lot and session, and lot, shelf and held their sums."""
        for line in self.lines(WEIGHTS, range(250, 260), 180):
            told = list(zip(line, run(line)))
            lots = sorted({call[1] for call, answer in told if call[0] == 4 and not is_refused(answer)})
            sessions = sorted({call[1] for call, answer in told if call[0] == 5 and answer == [0]})
            self.check_agreement(line, lots, sessions)

    def check_agreement(self, line, lots, sessions):
        def looks(place, numbers):
            calls = line + [[place, number] for number in numbers]
            self.assertLessEqual(len(calls), 400)
            return dict(zip(numbers, run(calls)[len(line):]))

        who = {lot: pairs_of(answer) for lot, answer in looks(22, lots).items()}
        uses = {session: pairs_of(answer) for session, answer in looks(23, sessions).items()}
        held = {session: pairs_of(answer[2:]) for session, answer in looks(24, sessions).items()}
        threes = sorted((lot, session, count) for lot in lots for session, count in who[lot])
        self.assertEqual(threes, sorted((lot, session, count) for session in sessions for lot, count in uses[session]))
        for lot, answer in looks(15, lots).items():
            if not is_refused(answer):
                used, held_for = two_rows(answer)
                self.assertEqual(used, who[lot])
                self.assertEqual(held_for, [(session, dict(held[session])[lot]) for session in sessions
                                            if lot in dict(held[session])])
        sums = {lot: answer[5:8] for lot, answer in looks(21, lots).items()}
        articles = {lot: answer[0] for lot, answer in looks(21, lots).items()}
        for lot in lots:
            held_of = sum(dict(held[session]).get(lot, 0) for session in sessions)
            self.assertEqual(sums[lot][1:], [held_of, sum(count for _, count in who[lot])])
        for article, answer in looks(20, sorted(set(articles.values()))).items():
            own = [sums[lot] for lot in lots if articles[lot] == article]
            self.assertEqual(answer[1:], [sum(counts[at] for counts in own) for at in range(3)])

    def test_without_the_calls_that_change_nothing(self):
        for line in self.lines(WEIGHTS, range(300, 315)):
            steps = list(zip(line, run(line)))
            self.check_left_out(steps)

    def test_the_list_is_the_same_and_the_second_time_as_the_first(self):
        for line in self.lines(WEIGHTS, range(400, 410)):
            handed_in = [number for call in line for number in call]
            before = list(handed_in)
            first = answers(handed_in)
            self.assertEqual(handed_in, before)
            self.assertEqual(answers(handed_in), first)
            self.assertEqual(handed_in, before)

    def test_the_runs_meet_every_answer(self):
        """The runs are of use only while each call is granted now and then, and refused by each number it has."""
        met = {}
        told = {}
        for line in self.lines(WEIGHTS, range(30)):
            for call, answer in zip(line, run(line)):
                met.setdefault(call[0], Counter())[min(answer[0], 0)] += 1
                told.setdefault(call[0], set()).add(tuple(answer))
        expected = {0: [-2], 1: [-3], 2: [-4, -9], 3: [-4, -9, -10, -11], 4: [-4, -9, -12, -13, -14], 5: [-3],
                    6: [-6, -7, -18], 7: [-6, -7, -4, -15], 8: [-6, -7, -16, -4, -15], 9: [-6, -7, -16, -17],
                    10: [-6, -7], 11: [-6, -7, -5, -17], 12: [-5, -15], 13: [], 14: [-5, -18], 15: [-5, -13],
                    16: [-4, -9], 17: [-4], 18: [-4], 19: [-4], 20: [-4, -9], 21: [-5], 22: [-5], 23: [-6], 24: [-6],
                    25: [-4], 26: [], 27: [], 28: [-4, -9], 29: [], 30: [-6]}
        for place, refusals in expected.items():
            without_arguments = place in (26, 29)
            for number in [0, *([] if without_arguments else [-1]), *refusals]:
                self.assertGreater(met[place][number], 0, f"place {place}, {number}")
        for place in range(16, 31):
            self.assertGreater(len(told[place]), 20, f"place {place}")
