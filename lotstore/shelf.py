"""The shelf: which lots are good, what is there, picking and dropping."""


def is_good(lot, day):
    return not lot.called_back and day <= lot.last_day


def good_lots(store, article):
    """The article's good lots in the order of picking."""
    good = [lot for lot in store.lots.values() if lot.article == article and is_good(lot, store.day)]
    # Sorting keeps lots with the same last day in the order in which they first came.
    return sorted(good, key=lambda lot: lot.last_day)


def count_there(store, plain):
    """How many of the plain article are there."""
    return sum([lot.free for lot in good_lots(store, plain)])


def missing_of(store, need):
    """What isn't there of a need: as the need, pairs of a plain article's number and a count."""
    beyond = [(plain, count - count_there(store, plain)) for plain, count in need]
    return [(plain, missing) for plain, missing in beyond if missing > 0]


def pick(store, need):
    """Takes a need that is there off the shelf; answers pairs of a lot and a count, in the order of picking."""
    picked = []
    for plain, wanted in need:
        missing = wanted
        for lot in good_lots(store, plain):
            count = min(lot.free, missing)
            if count > 0:
                lot.free -= count
                missing -= count
                picked.append((lot, count))
    return picked


def add_count(counts, session, count):
    counts[session] = counts.get(session, 0) + count


def drop_held(store, lot):
    """Drops what is held of a lot; answers pairs of a session's number and a count, the smaller number first."""
    dropped = sorted(lot.held.items())
    for number, count in dropped:
        lot.free += count
        session = store.sessions[number]
        session.broken = True
    lot.held = {}
    return dropped
