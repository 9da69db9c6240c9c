"""The calls that tell something of articles and change nothing. Each answers a list of numbers."""

from lotstore.article_calls import plain_refusal
from lotstore.kits import need_of
from lotstore.refusals import GRANTED, NO_ARTICLE
from lotstore.rows import row
from lotstore.shelf import count_there, good_lots, missing_of

MOST_ABLE = 1000000
MOST_DAYS = 3650


def tell_need(store, number, amount):
    if number not in store.articles:
        return [NO_ARTICLE]
    return row(need_of(store.articles[number], amount))


def tell_able(store, number):
    if number not in store.articles:
        return [NO_ARTICLE]
    need_of_one = need_of(store.articles[number], 1)
    return [min([MOST_ABLE] + [count_there(store, plain) // count for plain, count in need_of_one])]


def tell_short(store, number, amount):
    if number not in store.articles:
        return [NO_ARTICLE]
    return row(missing_of(store, need_of(store.articles[number], amount)))


def tell_shelf(store, number):
    refusal = plain_refusal(store, number)
    if refusal != GRANTED:
        return [refusal]
    lots = [lot for lot in store.lots.values() if lot.article == number]
    free = sum([lot.free for lot in lots])
    held = sum([sum(lot.held.values()) for lot in lots])
    used = sum([sum(lot.used.values()) for lot in lots])
    return [count_there(store, number), free, held, used]


def tell_parts(store, number):
    if number not in store.articles:
        return [NO_ARTICLE]
    article = store.articles[number]
    return [article.least] + row(article.parts)


def tell_low(store):
    plain = [number for number in sorted(store.articles) if not store.articles[number].parts]
    return row(missing_of(store, [(number, store.articles[number].least) for number in plain]))


def tell_lasts(store, number, wanted):
    """On how many days so many can be taken, and how many spoil by then."""
    refusal = plain_refusal(store, number)
    if refusal != GRANTED:
        return [refusal]
    supplied = 0
    spoiled = 0
    # Lot by lot, not day by day: each lot gives the days up to its last one what the lots ahead of it left
    # wanting. If some of it is left over then, all these days have what they want, so the day behind them is
    # reached, and on it the rest is spoiled. A day that stays without a part of what it wants is the one on
    # which it's over: that part day isn't counted, and nothing that was meant for it is spoiled yet.
    for lot in good_lots(store, number):
        days = min(lot.last_day - store.day + 1, MOST_DAYS)
        given = min(lot.free, days * wanted - supplied)
        supplied += given
        if days < MOST_DAYS:
            spoiled += lot.free - given
    return [supplied // wanted, spoiled]
