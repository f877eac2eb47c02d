"""Which schedule of a house is the plan."""

from lakesandpumps.network import Network
from lakesandpumps.schedules import ends_met, levels_fit

# One unit of gain outweighs all weights of the order together: there are at most 36 sendings,
# and their weights are halved from one to the next.
GAIN_WEIGHT = 68719476736


def node_of(house, store, period):
    """The node of a store in a period (counted from 0); outside, and all behind the last period, is node 0."""
    if store == 0 or period >= house.periods:
        return 0
    return period * len(house.stores) + store


def add_sendings(network, house):
    """An arc for each sending, in the plan's order.

    Any change from one flow to another is made of rounds that take each arc once at most. So weights
    that are halved are enough for an earlier sending to outweigh all later ones.
    """
    weight = GAIN_WEIGHT
    for period in range(house.periods):
        for link in house.links:
            weight = weight // 2
            tail = node_of(house, link.source, period)
            head = node_of(house, link.goal, period + link.delay)
            cost = weight - link.gains[period] * GAIN_WEIGHT
            network.add_arc(tail, head, link.leasts[period], link.rooms[period], cost)


def add_levels(network, house):
    """An arc for each store's level behind each period, and what comes into the store before it."""
    last = house.periods - 1
    for number, store in enumerate(house.stores, start=1):
        network.supply(node_of(house, number, 0), store.beginning)
        for period in range(house.periods):
            node = node_of(house, number, period)
            network.supply(node, store.inflows[period])
            low = store.end if period == last else 0
            cost = -store.left_value * GAIN_WEIGHT if period == last else 0
            network.add_arc(node, node_of(house, number, period + 1), low, store.cap, cost)


def has_room(house):
    """Whether no link's room is below its least; it never is in a house that is kept, but in one that's supposed."""
    for link in house.links:
        if any([room < least for room, least in zip(link.rooms, link.leasts)]):
            return False
    return True


def best_schedule(house):
    """The plan, or None if no schedule is let."""
    if house.periods == 0:
        beginnings = [store.beginning for store in house.stores]
        return [] if levels_fit(house, beginnings) and ends_met(house, beginnings) else None
    if not has_room(house):
        return None
    network = Network(house.periods * len(house.stores) + 1)
    add_sendings(network, house)
    add_levels(network, house)
    if not network.settle():
        return None
    return network.carried()[:house.periods * len(house.links)]
