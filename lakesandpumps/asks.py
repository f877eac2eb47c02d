"""The calls that ask a house and change nothing."""

from lakesandpumps.planning import best_schedule
from lakesandpumps.refusals import ACCEPTED
from lakesandpumps.schedules import schedule_earns


def plan(house):
    schedule = best_schedule(house)
    if schedule is None:
        return [ACCEPTED, 0]
    return [ACCEPTED, 1, schedule_earns(house, schedule)] + schedule
