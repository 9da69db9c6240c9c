"""What holds of a store at each moment, looked at from the inside."""


def snapshot(value):
    """All that the value holds, as plain tuples; the order of dicts counts."""
    if isinstance(value, dict):
        return tuple((key, snapshot(each)) for key, each in value.items())
    if isinstance(value, (list, tuple)):
        return tuple(snapshot(each) for each in value)
    if isinstance(value, (int, str)):
        return value
    return snapshot(vars(value))


def depth_of(articles, number):
    parts = articles[number].parts
    return 1 + max(depth_of(articles, part) for part, _ in parts) if parts else 0


def size_of(articles, number):
    return 1 + sum(size_of(articles, part) for part, _ in articles[number].parts)


def need_of_one(articles, number):
    parts = articles[number].parts
    if not parts:
        return {number: 1}
    need = {}
    for part, count in parts:
        for plain, each in need_of_one(articles, part).items():
            need[plain] = need.get(plain, 0) + each * count
    return need


def audit_articles(case, store):
    articles = store.articles
    case.assertLessEqual(len(articles), 64)
    for number, article in articles.items():
        measure = article.measure
        case.assertEqual(measure.depth, depth_of(articles, number))
        case.assertEqual(measure.size, size_of(articles, number))
        case.assertEqual(measure.need, need_of_one(articles, number))
        case.assertLessEqual(measure.depth, 8)
        case.assertLessEqual(measure.size, 256)
        case.assertLessEqual(max(measure.need.values()), 1000000)
        case.assertTrue(0 <= article.least <= 1000000)


def audit_lot(case, store, lot):
    held = sum(lot.held.values())
    used = sum(lot.used.values())
    case.assertEqual(lot.received + lot.gained, lot.free + held + used + lot.thrown + lot.lost)
    for amount in (lot.received, lot.gained, lot.free, lot.thrown, lot.lost):
        case.assertGreaterEqual(amount, 0)
    for amount in list(lot.held.values()) + list(lot.used.values()):
        case.assertGreater(amount, 0)
    case.assertLessEqual(lot.received, 1000000000)
    case.assertLessEqual(lot.gained, 1000000000000000)
    case.assertEqual(store.articles[lot.article].parts, [])
    if held:
        case.assertFalse(lot.called_back)
        case.assertLessEqual(store.day, lot.last_day)


def audit_sessions(case, store):
    case.assertLessEqual(len(store.sessions), 128)
    for number, session in store.sessions.items():
        if session.closed:
            case.assertFalse(session.broken)
            case.assertFalse([lot for lot in store.lots.values() if number in lot.held])


def audit(case, store):
    """Checks "In all" and the limits of what the store holds."""
    audit_articles(case, store)
    case.assertLessEqual(len(store.lots), 256)
    for lot in store.lots.values():
        audit_lot(case, store, lot)
    audit_sessions(case, store)
    case.assertEqual(sum(store.thrown_for), sum(lot.thrown for lot in store.lots.values()))
