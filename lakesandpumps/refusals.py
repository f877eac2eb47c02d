"""The number that a call answers first: 0 if it is accepted, else why it is refused."""

ACCEPTED = 0
OUT_OF_RANGE = -1
NOT_OPEN = -2
OPEN_ALREADY = -3
FULL = -4
NO_STORE = -5
NO_LINK = -6
NOT_FITTING = -7
NOT_LOOKED_AT = -8


def missing(house, parts, numbers, no_part):
    """What of the part and the period that the numbers begin with isn't there; 0 if both are."""
    if numbers[0] > len(parts):
        return no_part
    if numbers[1] > house.periods:
        return NOT_LOOKED_AT
    return ACCEPTED
