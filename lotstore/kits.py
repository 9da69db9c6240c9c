"""Kits: what stands above an article, and what follows from its parts."""

from lotstore.store import Measure

GREATEST_DEPTH = 8
GREATEST_SIZE = 256
GREATEST_NEED = 1000000


def with_kits_above(articles, number):
    """The article's number, then those of all kits that have it below them, the less deep first."""
    reached = {number: True}
    # A kit is deeper than its parts: going by depth, they have all been looked at before it.
    for other in sorted(articles, key=lambda each: articles[each].measure.depth):
        if any([part in reached for part, count in articles[other].parts]):
            reached[other] = True
    return list(reached)


def measure_with(number, parts, measures):
    """The measure that these parts give the article, from the measures of all articles by number."""
    if not parts:
        return Measure(0, 1, {number: 1})
    depth = 1 + max([measures[part].depth for part, count in parts])
    size = 1 + sum([measures[part].size for part, count in parts])
    need = {}
    for part, count in parts:
        for plain, each in measures[part].need.items():
            need[plain] = need.get(plain, 0) + count * each
    return Measure(depth, size, need)


def measures_after(articles, number, parts):
    """The measures of all articles by number, as they are when this one has these parts."""
    measures = {}
    for other, article in articles.items():
        measures[other] = article.measure
    for changed in with_kits_above(articles, number):
        its_parts = parts if changed == number else articles[changed].parts
        measures[changed] = measure_with(changed, its_parts, measures)
    return measures


def within_limits(measure):
    """Whether an article may have this measure."""
    if measure.depth > GREATEST_DEPTH or measure.size > GREATEST_SIZE:
        return False
    return max(measure.need.values()) <= GREATEST_NEED


def need_of(article, amount):
    """What so many of the article need: pairs of a plain article's number and a count, the smaller number first."""
    need = article.measure.need
    return [(plain, need[plain] * amount) for plain in sorted(need)]
