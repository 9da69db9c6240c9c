"""Rows, as they stand in an answer."""


def row(members):
    """How many members there are, then their numbers, member after member."""
    told = [len(members)]
    for member in members:
        told.extend(member)
    return told


def number_row(numbers):
    """The row of members that are one number each."""
    return [len(numbers)] + numbers


def lot_row(shares):
    """The row of shares of lots: each lot's number and the count."""
    return row([(lot.number, count) for lot, count in shares])
