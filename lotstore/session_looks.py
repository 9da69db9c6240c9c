"""The calls that tell something of sessions and change nothing. Each answers a list of numbers."""

from lotstore.refusals import NO_SESSION
from lotstore.rows import lot_row, number_row
from lotstore.session_calls import held_for, used_by


def tell_uses(store, number):
    if number not in store.sessions:
        return [NO_SESSION]
    return lot_row(used_by(store, number))


def tell_held(store, number):
    if number not in store.sessions:
        return [NO_SESSION]
    session = store.sessions[number]
    marks = [1 if session.closed else 0, 1 if session.broken else 0]
    return marks + lot_row(held_for(store, number))


def cluster_of(store, number):
    """The numbers of the session and of all to which one comes from it, going from joined one to joined one."""
    reached = {number: True}
    waiting = [number]
    looked_at = {}
    while waiting:
        session = waiting.pop()
        for lot, count in used_by(store, session):
            # Once is enough: whoever used some of a lot is joined to the first one that did.
            if lot.number not in looked_at:
                looked_at[lot.number] = True
                fresh = [other for other in lot.used if other not in reached]
                waiting.extend(fresh)
                for other in fresh:
                    reached[other] = True
    return sorted(reached)


def tell_cluster(store, number):
    if number not in store.sessions:
        return [NO_SESSION]
    return number_row(cluster_of(store, number))
