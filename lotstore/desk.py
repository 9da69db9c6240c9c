"""The desk: one list of numbers in, the calls on a new store; one list of numbers out, their answers."""

from lotstore.article_calls import add_article, set_least, set_recipe
from lotstore.article_looks import tell_able, tell_lasts, tell_low, tell_need, tell_parts, tell_shelf, tell_short
from lotstore.lot_calls import recall, recall_of, receive, set_day, sweep, take_stock, throw
from lotstore.lot_looks import tell_lot, tell_reasons, tell_soon, tell_who
from lotstore.refusals import BAD_ARGUMENT, NOT_A_CALL
from lotstore.session_calls import bring_back, close_session, issue, open_session, release, reserve, take
from lotstore.session_looks import tell_cluster, tell_held, tell_uses
from lotstore.store import Store

# The least and the greatest number that is granted.
RANGES = {
    "day": (0, 1000000),
    "article": (1, 1000000),
    "least stock": (0, 1000000),
    "count of a part": (1, 1000),
    "lot": (1, 1000000000),
    "session": (1, 1000000000),
    "amount": (1, 1000000),
    "pieces": (1, 1000000000000000),
    "stock": (0, 1000000000),
    "reason": (1, 9),
}

# What the numbers behind a call's place stand for, place after place; recipe's list is looked at apart.
ARGUMENTS = (
    ("day",),
    ("article", "least stock"),
    ("article", "least stock"),
    ("article",),
    ("lot", "article", "amount", "day"),
    ("session",),
    ("session",),
    ("session", "article", "amount"),
    ("session", "article", "amount"),
    ("session",),
    ("session",),
    ("session", "lot", "pieces"),
    ("lot", "pieces", "reason"),
    ("reason",),
    ("lot", "stock"),
    ("lot",),
    ("article", "day", "day"),
    ("article", "amount"),
    ("article",),
    ("article", "amount"),
    ("article",),
    ("lot",),
    ("lot",),
    ("session",),
    ("session",),
    ("article",),
    (),
    ("day",),
    ("article", "amount"),
    (),
    ("session",),
)

RECIPE = 3
RECALL_OF = 16
MOST_PART_NUMBERS = 32


def is_granted(number, meaning):
    """Whether the number is in the range of what it stands for."""
    bounds = RANGES[meaning]
    return bounds[0] <= number <= bounds[1]


def are_parts_granted(numbers):
    """Whether recipe's list is one of pairs, each in its ranges, with no part twice."""
    if len(numbers) > MOST_PART_NUMBERS or len(numbers) % 2 != 0:
        return False
    parts = numbers[0::2]
    counts = numbers[1::2]
    if not all([is_granted(part, "article") for part in parts]):
        return False
    if not all([is_granted(count, "count of a part") for count in counts]):
        return False
    return len(set(parts)) == len(parts)


def are_arguments_granted(call):
    meanings = ARGUMENTS[call[0]]
    for number, meaning in zip(call[1:], meanings):
        if not is_granted(number, meaning):
            return False
    if call[0] == RECALL_OF:
        return call[2] <= call[3]
    return call[0] != RECIPE or are_parts_granted(call[3:])


def look(store, place, given):
    """Answers the call at this place, one of those that change nothing, with arguments in their ranges."""
    if place == 17:
        return tell_need(store, given[0], given[1])
    if place == 18:
        return tell_able(store, given[0])
    if place == 19:
        return tell_short(store, given[0], given[1])
    if place == 20:
        return tell_shelf(store, given[0])
    if place == 21:
        return tell_lot(store, given[0])
    if place == 22:
        return tell_who(store, given[0])
    if place == 23:
        return tell_uses(store, given[0])
    if place == 24:
        return tell_held(store, given[0])
    if place == 25:
        return tell_parts(store, given[0])
    if place == 26:
        return tell_low(store)
    if place == 27:
        return tell_soon(store, given[0])
    if place == 28:
        return tell_lasts(store, given[0], given[1])
    if place == 29:
        return tell_reasons(store)
    return tell_cluster(store, given[0])


def change(store, place, given):
    """Answers the call at this place, one of those that may change the store, with arguments in their ranges."""
    if place == 0:
        return set_day(store, given[0])
    if place == 1:
        return add_article(store, given[0], given[1])
    if place == 2:
        return set_least(store, given[0], given[1])
    if place == RECIPE:
        return set_recipe(store, given[0], list(zip(given[2::2], given[3::2])))
    if place == 4:
        return receive(store, given[0], given[1], given[2], given[3])
    if place == 5:
        return open_session(store, given[0])
    if place == 6:
        return close_session(store, given[0])
    if place == 7:
        return issue(store, given[0], given[1], given[2])
    if place == 8:
        return reserve(store, given[0], given[1], given[2])
    if place == 9:
        return take(store, given[0])
    if place == 10:
        return release(store, given[0])
    if place == 11:
        return bring_back(store, given[0], given[1], given[2])
    if place == 12:
        return throw(store, given[0], given[1], given[2])
    if place == 13:
        return sweep(store, given[0])
    if place == 14:
        return take_stock(store, given[0], given[1])
    if place == 15:
        return recall(store, given[0])
    return recall_of(store, given[0], given[1], given[2])


def answer_call(store, call):
    if not are_arguments_granted(call):
        return [BAD_ARGUMENT]
    if call[0] <= RECALL_OF:
        return change(store, call[0], call[1:])
    return look(store, call[0], call[1:])


def call_length(calls, start):
    """How many numbers the call that begins at start is to have; 0 where that can't be told."""
    place = calls[start]
    if place < 0 or place >= len(ARGUMENTS):
        return 0
    length = 1 + len(ARGUMENTS[place])
    if place != RECIPE:
        return length
    if start + length >= len(calls) or calls[start + length] < 0:
        return 0
    return length + 1 + calls[start + length]


def answers(calls):
    """The answers to all calls of the list, each with how many numbers it has before it."""
    store = Store()
    answered = []
    start = 0
    while start < len(calls):
        length = call_length(calls, start)
        if length == 0 or start + length > len(calls):
            # Nobody can tell where a call would begin behind one without an end of its own.
            return answered + [1, NOT_A_CALL]
        answer = answer_call(store, calls[start:start + length])
        answered.append(len(answer))
        answered.extend(answer)
        start += length
    return answered
