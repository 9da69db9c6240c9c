"""The calls of sessions. Each answers a list of numbers."""

from lotstore.kits import need_of
from lotstore.refusals import BROKEN, CLOSED, FULL, GRANTED, KNOWN_ALREADY, NOT_ENOUGH, NOT_THAT_MANY
from lotstore.refusals import NO_ARTICLE, NO_LOT, NO_SESSION, STILL_HELD
from lotstore.rows import lot_row
from lotstore.shelf import add_count, missing_of, pick
from lotstore.store import Session

MOST_SESSIONS = 128


def session_refusal(store, number):
    """What refuses a call that wants a session which isn't closed."""
    if number not in store.sessions:
        return NO_SESSION
    return CLOSED if store.sessions[number].closed else GRANTED


def whole_session_refusal(store, number):
    """What refuses a call that wants a session which is neither closed nor broken."""
    refusal = session_refusal(store, number)
    if refusal != GRANTED:
        return refusal
    return BROKEN if store.sessions[number].broken else GRANTED


def need_refusal(store, article, amount):
    """What refuses that so many of the article are handed out."""
    if article not in store.articles:
        return NO_ARTICLE
    return NOT_ENOUGH if missing_of(store, need_of(store.articles[article], amount)) else GRANTED


def held_for(store, number):
    """What is held for the session: pairs of a lot and a count, in the order in which the lots first came."""
    return [(lot, lot.held[number]) for lot in store.lots.values() if number in lot.held]


def used_by(store, number):
    """What the session used: pairs of a lot and a count, in the order in which the lots first came."""
    return [(lot, lot.used[number]) for lot in store.lots.values() if number in lot.used]


def open_session(store, number):
    if number in store.sessions:
        return [KNOWN_ALREADY]
    if len(store.sessions) >= MOST_SESSIONS:
        return [FULL]
    store.sessions[number] = Session()
    return [0]


def close_session(store, number):
    refusal = session_refusal(store, number)
    if refusal != GRANTED:
        return [refusal]
    if held_for(store, number):
        return [STILL_HELD]
    session = store.sessions[number]
    session.closed = True
    session.broken = False
    return [sum([count for lot, count in used_by(store, number)])]


def issue(store, number, article, amount):
    refusal = session_refusal(store, number) or need_refusal(store, article, amount)
    if refusal != GRANTED:
        return [refusal]
    picked = pick(store, need_of(store.articles[article], amount))
    for lot, count in picked:
        add_count(lot.used, number, count)
    return lot_row(picked)


def reserve(store, number, article, amount):
    refusal = whole_session_refusal(store, number) or need_refusal(store, article, amount)
    if refusal != GRANTED:
        return [refusal]
    picked = pick(store, need_of(store.articles[article], amount))
    for lot, count in picked:
        add_count(lot.held, number, count)
    return lot_row(picked)


def take(store, number):
    refusal = whole_session_refusal(store, number)
    if refusal != GRANTED:
        return [refusal]
    taken = held_for(store, number)
    if not taken:
        return [NOT_THAT_MANY]
    for lot, count in taken:
        lot.held.pop(number)
        add_count(lot.used, number, count)
    return lot_row(taken)


def release(store, number):
    refusal = session_refusal(store, number)
    if refusal != GRANTED:
        return [refusal]
    released = held_for(store, number)
    for lot, count in released:
        lot.held.pop(number)
        lot.free += count
    session = store.sessions[number]
    session.broken = False
    return lot_row(released)


def bring_back(store, number, lot_number, count):
    refusal = session_refusal(store, number)
    if refusal != GRANTED:
        return [refusal]
    if lot_number not in store.lots:
        return [NO_LOT]
    lot = store.lots[lot_number]
    left = lot.used.get(number, 0) - count
    if left < 0:
        return [NOT_THAT_MANY]
    lot.free += count
    # A session whose count is 0 used none of the lot: it is to be told nowhere.
    if left == 0:
        lot.used.pop(number)
    else:
        lot.used[number] = left
    return [left]
