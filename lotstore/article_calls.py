"""The calls that tell articles and kits. Each answers a list of numbers."""

from lotstore.kits import measures_after, with_kits_above, within_limits
from lotstore.refusals import FULL, GRANTED, KNOWN_ALREADY, NO_ARTICLE, RING, TOO_GREAT, WRONG_KIND
from lotstore.store import Article

MOST_ARTICLES = 64


def plain_refusal(store, number):
    """What refuses a call that wants a plain article."""
    if number not in store.articles:
        return NO_ARTICLE
    return WRONG_KIND if store.articles[number].parts else GRANTED


def add_article(store, number, least):
    if number in store.articles:
        return [KNOWN_ALREADY]
    if len(store.articles) >= MOST_ARTICLES:
        return [FULL]
    store.articles[number] = Article(number, least)
    return [0]


def set_least(store, number, least):
    refusal = plain_refusal(store, number)
    if refusal != GRANTED:
        return [refusal]
    article = store.articles[number]
    article.least = least
    return [0]


def recipe_refusal(store, number, parts):
    """What refuses these parts before their measures are looked at."""
    named = [number] + [part for part, count in parts]
    if not all([each in store.articles for each in named]):
        return NO_ARTICLE
    if any([lot.article == number for lot in store.lots.values()]):
        return WRONG_KIND
    above = with_kits_above(store.articles, number)
    if any([part in above for part, count in parts]):
        return RING
    return GRANTED


def set_recipe(store, number, parts):
    refusal = recipe_refusal(store, number, parts)
    if refusal != GRANTED:
        return [refusal]
    measures = measures_after(store.articles, number, parts)
    if not all([within_limits(measure) for measure in measures.values()]):
        return [TOO_GREAT]
    changed = store.articles[number]
    changed.parts = parts
    for each, measure in measures.items():
        article = store.articles[each]
        article.measure = measure
    return [0]
