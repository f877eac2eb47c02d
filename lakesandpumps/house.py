"""The interface: a list of calls on one new house, and the list of what they answer."""

from lakesandpumps.asks import FIRST_ASK, ask
from lakesandpumps.calls import is_within, split_calls
from lakesandpumps.changes import change
from lakesandpumps.kept import House
from lakesandpumps.refusals import NOT_OPEN, OUT_OF_RANGE

PLACE_OF_OPEN = 0


def answer_of(house, place, numbers):
    """What one call answers."""
    if not is_within(place, numbers):
        return [OUT_OF_RANGE]
    if place != PLACE_OF_OPEN and not house.is_open:
        return [NOT_OPEN]
    if place >= FIRST_ASK:
        return ask(house, place, numbers)
    return change(house, place, numbers)


def answers(calls):
    """For each call how many numbers it answers, and these."""
    house = House()
    told = []
    for place, numbers in split_calls(calls):
        answer = answer_of(house, place, numbers)
        told.append(len(answer))
        told.extend(answer)
    return told
