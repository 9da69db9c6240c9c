"""The numbers by which calls are refused."""

BAD_ARGUMENT = -1
PAST_DAY = -2
KNOWN_ALREADY = -3
NO_ARTICLE = -4
NO_LOT = -5
NO_SESSION = -6
CLOSED = -7
FULL = -8
WRONG_KIND = -9
RING = -10
TOO_GREAT = -11
TOLD_OTHERWISE = -12
CALLED_BACK = -13
PAST_LAST_DAY = -14
NOT_ENOUGH = -15
BROKEN = -16
NOT_THAT_MANY = -17
STILL_HELD = -18
NOT_A_CALL = -100

# Not an answer: what a check gives back where nothing is refused, so that checks can be joined by `or`.
GRANTED = 0
