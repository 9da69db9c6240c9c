"""The calls on lots, and the day that makes them old. Each answers a list of numbers."""

from lotstore.article_calls import plain_refusal
from lotstore.refusals import CALLED_BACK, FULL, GRANTED, NOT_ENOUGH, NO_LOT, PAST_DAY, PAST_LAST_DAY
from lotstore.refusals import STILL_HELD, TOLD_OTHERWISE
from lotstore.rows import lot_row, number_row, row
from lotstore.shelf import drop_held, is_good
from lotstore.store import Lot

MOST_LOTS = 256
MOST_RECEIVED = 1000000000
MOST_GAINED = 1000000000000000


def set_day(store, day):
    if day < store.day:
        return [PAST_DAY]
    store.day = day
    dropped = []
    for lot in [each for each in store.lots.values() if each.last_day < day]:
        dropped.extend([(session, lot.number, count) for session, count in drop_held(store, lot)])
    return row(dropped)


def telling_refusal(lot, article, last_day):
    """What refuses that more of a known lot comes, told like this."""
    if lot.article != article or lot.last_day != last_day:
        return TOLD_OTHERWISE
    return CALLED_BACK if lot.called_back else GRANTED


def room_refusal(store, number, amount):
    """What refuses so many of a lot, known or not, because the store is full."""
    if number in store.lots:
        return FULL if store.lots[number].received + amount > MOST_RECEIVED else GRANTED
    return FULL if len(store.lots) >= MOST_LOTS else GRANTED


def receive_refusal(store, number, article, amount, last_day):
    refusal = plain_refusal(store, article)
    if refusal == GRANTED and number in store.lots:
        refusal = telling_refusal(store.lots[number], article, last_day)
    if refusal == GRANTED and last_day < store.day:
        refusal = PAST_LAST_DAY
    return refusal or room_refusal(store, number, amount)


def receive(store, number, article, amount, last_day):
    refusal = receive_refusal(store, number, article, amount, last_day)
    if refusal != GRANTED:
        return [refusal]
    lot = store.lots.setdefault(number, Lot(number, article, last_day, store.day))
    lot.received += amount
    lot.free += amount
    return [lot.received]


def throw_away(store, lot, count, reason):
    lot.free -= count
    lot.thrown += count
    store.thrown_for[reason] += count


def throw(store, number, count, reason):
    if number not in store.lots:
        return [NO_LOT]
    lot = store.lots[number]
    if lot.free < count:
        return [NOT_ENOUGH]
    throw_away(store, lot, count, reason)
    return [lot.free]


def sweep(store, reason):
    spoiled = [lot for lot in store.lots.values() if lot.free > 0 and not is_good(lot, store.day)]
    swept = [(lot, lot.free) for lot in spoiled]
    for lot, count in swept:
        throw_away(store, lot, count, reason)
    return lot_row(swept)


def take_stock(store, number, present):
    if number not in store.lots:
        return [NO_LOT]
    lot = store.lots[number]
    held = sum(lot.held.values())
    if present < held:
        return [STILL_HELD]
    grown = max(present - held - lot.free, 0)
    if lot.gained + grown > MOST_GAINED:
        return [FULL]
    shrunk = max(lot.free - (present - held), 0)
    lot.free = present - held
    lot.gained += grown
    lot.lost += shrunk
    return [grown, shrunk]


def recall(store, number):
    if number not in store.lots:
        return [NO_LOT]
    lot = store.lots[number]
    if lot.called_back:
        return [CALLED_BACK]
    used = sorted(lot.used.items())
    dropped = drop_held(store, lot)
    lot.called_back = True
    return row(used) + row(dropped)


def recall_of(store, article, first, last):
    """Calls back the article's lots that first came from the day first to the day last."""
    refusal = plain_refusal(store, article)
    if refusal != GRANTED:
        return [refusal]
    its_lots = [lot for lot in store.lots.values() if lot.article == article and not lot.called_back]
    called = [lot for lot in its_lots if first <= lot.first_day <= last]
    for lot in called:
        drop_held(store, lot)
        lot.called_back = True
    return number_row([lot.number for lot in called])
