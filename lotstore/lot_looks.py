"""The calls that tell something of lots and change nothing. Each answers a list of numbers."""

from lotstore.refusals import NO_LOT
from lotstore.rows import row
from lotstore.shelf import is_good


def tell_lot(store, number):
    if number not in store.lots:
        return [NO_LOT]
    lot = store.lots[number]
    told = [lot.article, lot.last_day, lot.first_day, lot.received, lot.gained, lot.free]
    told.extend([sum(lot.held.values()), sum(lot.used.values()), lot.thrown, lot.lost])
    return told + [1 if lot.called_back else 0]


def tell_who(store, number):
    if number not in store.lots:
        return [NO_LOT]
    return row(sorted(store.lots[number].used.items()))


def tell_soon(store, days):
    on_shelf = [lot for lot in store.lots.values() if lot.free > 0 and is_good(lot, store.day)]
    soon = [lot for lot in on_shelf if lot.last_day <= store.day + days]
    # Sorting keeps lots with the same last day in the order in which they first came.
    by_last_day = sorted(soon, key=lambda lot: lot.last_day)
    return row([(lot.number, lot.last_day, lot.free) for lot in by_last_day])


def tell_reasons(store):
    return store.thrown_for[1:]
