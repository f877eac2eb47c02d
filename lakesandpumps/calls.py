"""How calls stand in a list of numbers, and within which ranges their numbers must be."""

# For each call the least and the greatest value of each of its numbers.
RANGES = {
    0: ((1, 6),),
    1: ((0, 1000000000), (0, 1000000000), (0, 1000000000), (-1000000, 1000000)),
    2: ((1, 4), (1, 6), (0, 1000000000)),
    3: ((0, 4), (0, 4), (0, 5)),
    4: ((1, 6), (1, 6), (0, 1000000000)),
    5: ((1, 6), (1, 6), (0, 1000000000)),
    6: ((1, 6), (1, 6), (-1000000, 1000000)),
    7: (),
    9: (),
    10: (),
    11: (),
    12: ((1, 4), (1, 6), (-1000000000, 1000000000)),
    13: ((1, 6), (1, 6), (-1000000000, 1000000000)),
    14: ((1, 6),),
    17: ((1, 4),),
    18: ((1, 6),),
    19: (),
}

# The calls that have a row of amounts, and no other number.
ROWED = (8, 15, 16)
LONGEST_ROW = 36
GREATEST_AMOUNT = 1000000000


def split_calls(calls):
    """The calls in order, each as its place and its numbers (its row's numbers, if it has a row)."""
    found = []
    at = 0
    while at < len(calls):
        place = calls[at]
        at += 1
        if place in ROWED:
            many = calls[at]
            at += 1
        else:
            many = len(RANGES[place])
        found.append((place, calls[at:at + many]))
        at += many
    return found


def is_within(place, numbers):
    """Whether all that the call is given is within the ranges told for it."""
    if place in ROWED:
        return len(numbers) <= LONGEST_ROW and all([0 <= number <= GREATEST_AMOUNT for number in numbers])
    return all([bounds[0] <= number <= bounds[1] for number, bounds in zip(numbers, RANGES[place])])
