"""The calls that change a house.

Each takes numbers that are within their ranges, and answers a list: a refusal alone, or 0 and what is told.
"""

from lakesandpumps.kept import Link, Store
from lakesandpumps.refusals import ACCEPTED, FULL, NO_LINK, NO_STORE, NOT_FITTING, NOT_LOOKED_AT, OPEN_ALREADY
from lakesandpumps.refusals import missing
from lakesandpumps.schedules import levels_behind, levels_fit, sendings_earn, sendings_fit

MOST_STORES = 4
MOST_LINKS = 6
MOST_PERIODS = 6


def open_house(house, numbers):
    if house.is_open:
        return [OPEN_ALREADY]
    house.is_open = True
    house.periods = numbers[0]
    return [ACCEPTED]


def new_store(house, numbers):
    cap = numbers[0]
    beginning = numbers[1]
    end = numbers[2]
    left_value = numbers[3]
    if beginning > cap or end > cap:
        return [NOT_FITTING]
    if len(house.stores) == MOST_STORES:
        return [FULL]
    house.stores.append(Store(cap, beginning, end, left_value, house.periods))
    return [ACCEPTED, len(house.stores)]


def new_link(house, numbers):
    source = numbers[0]
    goal = numbers[1]
    delay = numbers[2]
    if source == goal or max(source, goal) > len(house.stores):
        return [NOT_FITTING]
    if len(house.links) == MOST_LINKS:
        return [FULL]
    house.links.append(Link(source, goal, delay, house.periods))
    return [ACCEPTED, len(house.links)]


def set_inflow(house, numbers):
    refusal = missing(house, house.stores, numbers, NO_STORE)
    if refusal != ACCEPTED:
        return [refusal]
    store = house.stores[numbers[0] - 1]
    store.inflows[numbers[1] - 1] = numbers[2]
    return [ACCEPTED]


def set_room(house, numbers):
    refusal = missing(house, house.links, numbers, NO_LINK)
    if refusal != ACCEPTED:
        return [refusal]
    link = house.links[numbers[0] - 1]
    if numbers[2] < link.leasts[numbers[1] - 1]:
        return [NOT_FITTING]
    link.rooms[numbers[1] - 1] = numbers[2]
    return [ACCEPTED]


def set_least(house, numbers):
    refusal = missing(house, house.links, numbers, NO_LINK)
    if refusal != ACCEPTED:
        return [refusal]
    link = house.links[numbers[0] - 1]
    if numbers[2] > link.rooms[numbers[1] - 1]:
        return [NOT_FITTING]
    link.leasts[numbers[1] - 1] = numbers[2]
    return [ACCEPTED]


def set_gain(house, numbers):
    refusal = missing(house, house.links, numbers, NO_LINK)
    if refusal != ACCEPTED:
        return [refusal]
    link = house.links[numbers[0] - 1]
    link.gains[numbers[1] - 1] = numbers[2]
    return [ACCEPTED]


def add_period(house, numbers):
    if house.periods == MOST_PERIODS:
        return [FULL]
    house.lengthen()
    return [ACCEPTED]


def may_be_sent(house, sent):
    """Whether the links may send this in period 1; the ends are not asked here."""
    if len(sent) != len(house.links):
        return False
    return sendings_fit(house, sent, 0) and levels_fit(house, levels_behind(house, sent, 1)[1])


def bring_later(house, sent):
    """Adds what comes to a store in a later period to its inflow; behind the last period it is lost."""
    for link, amount in zip(house.links, sent):
        if link.goal > 0 and 0 < link.delay < house.periods:
            house.stores[link.goal - 1].inflows[link.delay] += amount


def step(house, sent):
    if house.periods == 0:
        return [NOT_LOOKED_AT]
    if not may_be_sent(house, sent):
        return [NOT_FITTING]
    levels = levels_behind(house, sent, 1)[1]
    growth = sendings_earn(house, sent, 1)
    bring_later(house, sent)
    for store, level in zip(house.stores, levels):
        store.beginning = level
    house.gained += growth
    house.elapsed += 1
    house.shorten()
    return [ACCEPTED, growth]


CHANGES = (open_house, new_store, set_inflow, new_link, set_room, set_least, set_gain, add_period, step)


def change(house, place, numbers):
    return CHANGES[place](house, numbers)
