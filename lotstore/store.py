"""What a store holds."""


class Measure:
    """What follows from an article's parts: its depth, its size, and what one of it needs."""

    def __init__(self, depth, size, need):
        self.depth = depth
        self.size = size
        self.need = need


class Article:
    """An article, plain while it has no parts; its measure is kept beside them and changes with them."""

    def __init__(self, number, least):
        self.least = least
        self.parts = []
        self.measure = Measure(0, 1, {number: 1})


class Lot:
    """A lot's counts; held and used go by the session's number and hold no count of 0."""

    def __init__(self, number, article, last_day, first_day):
        self.number = number
        self.article = article
        self.last_day = last_day
        self.first_day = first_day
        self.received = 0
        self.gained = 0
        self.free = 0
        self.held = {}
        self.used = {}
        self.thrown = 0
        self.lost = 0
        self.called_back = False


class Session:
    """A session's two marks; what it holds and used stands with the lots."""

    def __init__(self):
        self.closed = False
        self.broken = False


class Store:
    """All that is kept from call to call; the dicts go by number, in the order in which their members came."""

    def __init__(self):
        self.day = 0
        self.articles = {}
        self.lots = {}
        self.sessions = {}
        # By the reason's number; at 0 nothing is ever added.
        self.thrown_for = [0] * 10
