"""What a schedule does in a house: levels, earnings, and whether it is let.

A schedule is a list of amounts: what the links send in period 1, in order, then in period 2, and so on.
"""


def levels_after(house, schedule, period, before):
    """Each store's level behind a period (counted from 0 here), from the levels before it."""
    many = len(house.links)
    levels = [level + store.inflows[period] for level, store in zip(before, house.stores)]
    for number, link in enumerate(house.links):
        if link.source > 0:
            levels[link.source - 1] -= schedule[period * many + number]
        left_in = period - link.delay
        if link.goal > 0 and left_in >= 0:
            levels[link.goal - 1] += schedule[left_in * many + number]
    return levels


def levels_behind(house, schedule, periods):
    """The beginnings, and behind them the stores' levels behind each of the first periods, a list each."""
    rows = [[store.beginning for store in house.stores]]
    for period in range(periods):
        rows.append(levels_after(house, schedule, period, rows[period]))
    return rows


def sendings_earn(house, schedule, periods):
    """The sum of gain * sent over the first periods."""
    many = len(house.links)
    total = 0
    for period in range(periods):
        for number, link in enumerate(house.links):
            total += link.gains[period] * schedule[period * many + number]
    return total


def schedule_earns(house, schedule):
    """What the sendings earn, and what is left in the stores behind the last period."""
    total = sendings_earn(house, schedule, house.periods)
    last = levels_behind(house, schedule, house.periods)[house.periods]
    for store, level in zip(house.stores, last):
        total += store.left_value * level
    return total


def sendings_fit(house, schedule, period):
    """Whether each sending of a period (counted from 0) is from least to room."""
    many = len(house.links)
    sent = schedule[period * many:(period + 1) * many]
    return all([link.leasts[period] <= amount <= link.rooms[period] for link, amount in zip(house.links, sent)])


def levels_fit(house, levels):
    """Whether each store's level is from 0 to its cap."""
    return all([0 <= level <= store.cap for store, level in zip(house.stores, levels)])


def ends_met(house, levels):
    """Whether no store's level is below its end."""
    return all([store.end <= level for store, level in zip(house.stores, levels)])


def first_not_let(house, schedule):
    """The first period (counted from 1) for which the schedule isn't let; 0 if there's none."""
    rows = levels_behind(house, schedule, house.periods)
    for period in range(house.periods):
        if not sendings_fit(house, schedule, period) or not levels_fit(house, rows[period + 1]):
            return period + 1
    if house.periods > 0 and not ends_met(house, rows[house.periods]):
        return house.periods
    return 0
