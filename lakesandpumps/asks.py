"""The calls that ask a house and change nothing.

Each takes numbers that are within their ranges, and answers a list: a refusal alone, or 0 and what is told.
"""

from lakesandpumps.planning import best_schedule
from lakesandpumps.refusals import ACCEPTED, NO_LINK, NO_STORE, NOT_FITTING, missing
from lakesandpumps.schedules import first_not_let, levels_behind, schedule_earns

FIRST_ASK = 9


def plan(house, numbers):
    schedule = best_schedule(house)
    if schedule is None:
        return [ACCEPTED, 0]
    return [ACCEPTED, 1, schedule_earns(house, schedule)] + schedule


def levels_in_order(house, schedule):
    """The stores' levels behind period 1, then behind period 2, and so on, in one list."""
    found = []
    for row in levels_behind(house, schedule, house.periods)[1:]:
        found.extend(row)
    return found


def levels(house, numbers):
    schedule = best_schedule(house)
    if schedule is None:
        return [ACCEPTED, 0]
    return [ACCEPTED, 1] + levels_in_order(house, schedule)


def worth(house, numbers):
    return plan(house, numbers)[:3]


def more(house, numbers):
    refusal = missing(house, house.stores, numbers, NO_STORE)
    if refusal != ACCEPTED:
        return [refusal]
    supposed = house.twin()
    supposed.stores[numbers[0] - 1].inflows[numbers[1] - 1] += numbers[2]
    return worth(supposed, [])


def wider(house, numbers):
    refusal = missing(house, house.links, numbers, NO_LINK)
    if refusal != ACCEPTED:
        return [refusal]
    supposed = house.twin()
    supposed.links[numbers[0] - 1].rooms[numbers[1] - 1] += numbers[2]
    return worth(supposed, [])


def without(house, numbers):
    if numbers[0] > len(house.links):
        return [NO_LINK]
    supposed = house.twin()
    link = supposed.links[numbers[0] - 1]
    link.rooms = [0] * house.periods
    link.leasts = [0] * house.periods
    return worth(supposed, [])


def is_whole(house, schedule):
    return len(schedule) == house.periods * len(house.links)


def check(house, schedule):
    if not is_whole(house, schedule):
        return [NOT_FITTING]
    period = first_not_let(house, schedule)
    if period > 0:
        return [ACCEPTED, 0, period]
    return [ACCEPTED, 1, schedule_earns(house, schedule)]


def levels_by(house, schedule):
    if not is_whole(house, schedule):
        return [NOT_FITTING]
    return [ACCEPTED] + levels_in_order(house, schedule)


def ask_store(house, numbers):
    if numbers[0] > len(house.stores):
        return [NO_STORE]
    store = house.stores[numbers[0] - 1]
    return [ACCEPTED, store.cap, store.beginning, store.end, store.left_value] + store.inflows


def ask_link(house, numbers):
    if numbers[0] > len(house.links):
        return [NO_LINK]
    link = house.links[numbers[0] - 1]
    return [ACCEPTED, link.source, link.goal, link.delay] + link.rooms + link.leasts + link.gains


def state(house, numbers):
    return [ACCEPTED, house.periods, len(house.stores), len(house.links), house.elapsed, house.gained]


ASKS = (plan, levels, worth, more, wider, without, check, levels_by, ask_store, ask_link, state)


def ask(house, place, numbers):
    return ASKS[place - FIRST_ASK](house, numbers)
