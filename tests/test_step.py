"""step: a period passes."""

import unittest

from lakesandpumps.calls import split_calls
from lakesandpumps.changes import change
from lakesandpumps.kept import House
from tests.helper import (ADD, AMOUNT, FARTHEST, GAIN, GAIN_OF, INFLOW, LEAST, LINK, OPEN, PLAN, ROOM, STEP, STORE, ask,
                          flat, gains, last, leasts, rooms)

# Two stores above one another, with a link between them and one out of the lower one.
LAKES = [(OPEN, 3), (STORE, 10, 6, 0, 1), (STORE, 8, 2, 0, 1), (LINK, 1, 2, 0), (LINK, 2, 0, 0),
         *rooms(1, [5, 4, 3]), *leasts(1, [1, 0, 0]), *gains(1, [-1, -1, -1]), *rooms(2, [9, 9, 9]),
         *gains(2, [10, 20, 30]), (INFLOW, 1, 1, 2), (INFLOW, 2, 2, 3)]


def kept_after(*calls):
    """The house as it is kept behind these calls, each of which changes it."""
    house = House()
    for place, numbers in split_calls(flat(calls)):
        if change(house, place, numbers)[0] != 0:
            raise AssertionError("a call was refused")
    return house


class Step(unittest.TestCase):

    def refuses(self, before, row, number):
        told = ask(*before, (STEP, row), (PLAN,), (ADD,), (PLAN,))
        self.assertEqual(told[len(before)], [number], row)
        self.assertEqual(told[len(before) + 1:], ask(*before, (PLAN,), (ADD,), (PLAN,))[len(before):], row)

    def test_it_answers_what_was_gained(self):
        self.assertEqual(last(*LAKES, (STEP, [2, 3])), [0, 28])
        self.assertEqual(last(*LAKES, (STEP, [5, 0])), [0, -5])
        self.assertEqual(ask(*LAKES, (STEP, [2, 3]), (STEP, [0, 1]), (STEP, [0, 0]))[-3:], [[0, 28], [0, 20], [0, 0]])

    def test_what_is_kept(self):
        house = kept_after(*LAKES, (STEP, [2, 3]))
        self.assertEqual((house.periods, house.elapsed, house.gained), (2, 1, 28))
        self.assertEqual([store.beginning for store in house.stores], [6, 1])
        self.assertEqual([store.inflows for store in house.stores], [[0, 0], [3, 0]])
        self.assertEqual([link.rooms for link in house.links], [[4, 3], [9, 9]])
        self.assertEqual([link.leasts for link in house.links], [[0, 0], [0, 0]])
        self.assertEqual([link.gains for link in house.links], [[-1, -1], [20, 30]])
        house = kept_after(*LAKES, (STEP, [2, 3]), (STEP, [4, 8]), (ADD,))
        self.assertEqual((house.periods, house.elapsed, house.gained), (2, 2, 28 + 156))
        self.assertEqual([store.beginning for store in house.stores], [2, 0])
        self.assertEqual([link.gains for link in house.links], [[-1, 0], [30, 0]])

    def test_levels_pass_into_the_next_period(self):
        told = ask((OPEN, 2), (STORE, 9, 4, 0, 1), (LINK, 1, 0, 0), *rooms(1, [9, 9]), (INFLOW, 1, 1, 3), (STEP, [2]),
                   (PLAN,))
        self.assertEqual(told[-1], [0, 1, 5, 0])

    def test_what_comes_may_leave_at_once(self):
        self.assertEqual(last(*LAKES, (STEP, [5, 7])), [0, 65])
        self.refuses(LAKES, [5, 8], -7)

    def test_following_the_plan_gains_what_it_earns(self):
        calls = list(LAKES)
        earned = last(*calls, (PLAN,))[2]
        gained = 0
        for period in range(3):
            sent = last(*calls, (PLAN,))[3:5]
            calls.append((STEP, sent))
            gained += last(*calls)[1]
        self.assertEqual(gained + last(*calls, (PLAN,))[2], earned)

    def test_least_and_room(self):
        house = [(OPEN, 1), (STORE, 100, 50, 0, 0), (LINK, 1, 0, 0), (ROOM, 1, 1, 7), (LEAST, 1, 1, 3)]
        for amount in (3, 4, 7):
            self.assertEqual(last(*house, (STEP, [amount])), [0, 0])
        for amount in (0, 2, 8, AMOUNT):
            self.refuses(house, [amount], -7)

    def test_levels_from_0_to_the_cap(self):
        house = [(OPEN, 1), (STORE, 10, 4, 0, 0), (LINK, 0, 1, 0), (LINK, 1, 0, 0), (ROOM, 1, 1, 100), (ROOM, 2, 1, 100),
                 (INFLOW, 1, 1, 1)]
        for row in ([5, 0], [0, 5], [100, 95], [95, 100], [100, 100]):
            self.assertEqual(last(*house, (STEP, row)), [0, 0], row)
        for row in ([6, 0], [0, 6], [100, 94], [94, 100]):
            self.refuses(house, row, -7)

    def test_inflow_alone_may_be_too_much(self):
        house = [(OPEN, 2), (STORE, 10, 10, 0, 0)]
        self.assertEqual(last(*house, (STEP, [])), [0, 0])
        self.refuses(house + [(INFLOW, 1, 1, 1)], [], -7)
        self.assertEqual(last(*house, (INFLOW, 1, 2, 1), (STEP, [])), [0, 0])

    def test_the_end_is_not_asked(self):
        house = [(OPEN, 1), (STORE, 10, 8, 5, 1), (LINK, 1, 0, 0), (ROOM, 1, 1, 8)]
        told = ask(*house, (PLAN,), (STEP, [8]), (PLAN,), (ADD,), (PLAN,))
        self.assertEqual(told[-5:], [[0, 1, 8, 0], [0, 0], [0, 0], [0], [0, 0]])
        self.assertEqual(ask(*house, (STEP, [3]), (PLAN,))[-2:], [[0, 0], [0, 1, 5]])

    def test_rows_of_another_length(self):
        self.refuses(LAKES, [], -7)
        self.refuses(LAKES, [2], -7)
        self.refuses(LAKES, [2, 3, 0], -7)
        self.refuses(LAKES, [2, 3] + [0] * 34, -7)
        self.refuses([(OPEN, 1)], [0], -7)
        self.refuses([(OPEN, 1)], [0] * 36, -7)

    def test_rows_out_of_range(self):
        self.refuses(LAKES, [0] * 37, -1)
        self.refuses(LAKES, [0] * 200, -1)
        for wrong in (-1, AMOUNT + 1, FARTHEST, -FARTHEST):
            self.refuses(LAKES, [wrong, 3], -1)
            self.refuses(LAKES, [2, wrong], -1)
            self.refuses(LAKES, [2, 3, wrong], -1)
            self.assertEqual(last((STEP, [wrong])), [-1])
            self.assertEqual(last((OPEN, 1), (STEP, []), (STEP, [wrong])), [-1])
        self.assertEqual(last((STEP, [0] * 36)), [-2])

    def test_no_period_is_looked_at(self):
        house = [(OPEN, 1), (STORE, 5, 5, 0, 2), (LINK, 1, 0, 0), (ROOM, 1, 1, 5), (STEP, [1])]
        self.refuses(house, [0], -8)
        self.refuses(house, [], -8)
        self.refuses(house, [1, 2, 3], -8)
        self.assertEqual(ask(*house, (STEP, [0]), (ADD,), (STEP, [0]), (STEP, [0]))[-4:], [[-8], [0], [0, 0], [-8]])

    def test_down_to_no_period_and_up_again(self):
        told = ask((OPEN, 6), (STORE, 9, 1, 0, 5), (LINK, 0, 1, 0), *rooms(1, [1] * 6), *gains(1, [1, 2, 3, 4, 5, 6]),
                   *[(STEP, [1])] * 6, (PLAN,), (STEP, [1]), (ADD,), (PLAN,), (ROOM, 1, 1, 2), (PLAN,))
        self.assertEqual(told[-12:], [[0, 1], [0, 2], [0, 3], [0, 4], [0, 5], [0, 6], [0, 1, 35], [-8], [0], [0, 1, 35, 0],
                                      [0], [0, 1, 45, 2]])

    def test_great_numbers(self):
        house = [(OPEN, 1), (STORE, AMOUNT, AMOUNT, 0, 0)]
        for link in range(1, 7):
            source = 1 if link > 3 else 0
            house += [(LINK, source, 1 - source, 0), (ROOM, link, 1, AMOUNT), (GAIN_OF, link, 1, GAIN)]
        self.assertEqual(last(*house, (STEP, [AMOUNT] * 6)), [0, 6 * AMOUNT * GAIN])
        self.assertEqual(last(*house, *[(GAIN_OF, link, 1, -GAIN) for link in range(1, 7)], (STEP, [AMOUNT] * 6)),
                         [0, -6 * AMOUNT * GAIN])


class Later(unittest.TestCase):

    def house(self, delay, periods=3):
        return [(OPEN, periods), (STORE, 20, 0, 0, 0), (STORE, 20, 10, 0, 0), (LINK, 2, 1, delay), (LINK, 1, 0, 0),
                (ROOM, 1, 1, 9), *rooms(2, [20] * periods), *gains(2, [1] * periods)]

    def test_it_comes_in_its_period(self):
        self.assertEqual(kept_after(*self.house(0), (STEP, [9, 0])).stores[0].inflows, [0, 0])
        self.assertEqual(kept_after(*self.house(0), (STEP, [9, 0])).stores[0].beginning, 9)
        self.assertEqual(kept_after(*self.house(1), (STEP, [9, 0])).stores[0].inflows, [9, 0])
        self.assertEqual(kept_after(*self.house(1), (STEP, [9, 0])).stores[0].beginning, 0)
        self.assertEqual(kept_after(*self.house(2), (STEP, [9, 0])).stores[0].inflows, [0, 9])

    def test_plans_behind_it(self):
        def plan(delay):
            return last(*self.house(delay), (GAIN_OF, 2, 2, 2), (STEP, [9, 0]), (PLAN,))
        self.assertEqual(plan(0), [0, 1, 18, 0, 9, 0, 0])
        self.assertEqual(plan(1), [0, 1, 18, 0, 9, 0, 0])
        self.assertEqual(plan(2), [0, 1, 9, 0, 0, 0, 9])
        self.assertEqual(plan(3), [0, 1, 0, 0, 0, 0, 0])

    def test_behind_the_last_period_it_is_lost(self):
        for delay in (3, 4, 5):
            self.assertEqual(kept_after(*self.house(delay), (STEP, [9, 0])).stores[0].inflows, [0, 0])
        house = kept_after(*self.house(3), (STEP, [9, 0]), (ADD,), (ADD,))
        self.assertEqual(house.stores[0].inflows, [0, 0, 0, 0])
        house = kept_after(*self.house(3), (ADD,), (STEP, [9, 0]))
        self.assertEqual(house.stores[0].inflows, [0, 0, 9])

    def test_the_longest_delay(self):
        house = kept_after(*self.house(5, 6), (STEP, [9, 0]))
        self.assertEqual(house.stores[0].inflows, [0, 0, 0, 0, 9])
        house = kept_after(*self.house(5, 6), (STEP, [9, 0]), *[(STEP, [0, 0])] * 4)
        self.assertEqual(house.stores[0].inflows, [9])

    def test_it_is_added_to_what_comes_anyway(self):
        house = kept_after(*self.house(1), (INFLOW, 1, 2, 5), (INFLOW, 1, 3, 4), (STEP, [9, 0]))
        self.assertEqual(house.stores[0].inflows, [14, 4])
        house = kept_after(*self.house(1), (INFLOW, 1, 2, 5), (STEP, [9, 0]), (INFLOW, 1, 1, 2))
        self.assertEqual(house.stores[0].inflows, [2, 0])

    def test_it_leaves_at_once_and_is_not_yet_there(self):
        self.assertEqual(kept_after(*self.house(2), (STEP, [9, 0])).stores[1].beginning, 1)
        self.assertEqual(last(*self.house(2), (STEP, [9, 1])), [-7])
        self.assertEqual(last(*self.house(0), (STEP, [9, 9])), [0, 9])

    def test_what_goes_outside_later_comes_to_no_store(self):
        house = kept_after((OPEN, 3), (STORE, 5, 5, 0, 0), (LINK, 1, 0, 1), (ROOM, 1, 1, 5), (STEP, [5]))
        self.assertEqual((house.stores[0].beginning, house.stores[0].inflows), (0, [0, 0]))

    def test_inflows_may_grow_beyond_an_amount(self):
        told = ask((OPEN, 2), (STORE, AMOUNT, 0, 0, 0), *[(LINK, 0, 1, 1)] * 5, (LINK, 1, 0, 0), (INFLOW, 1, 2, AMOUNT),
                   *[(ROOM, link, 1, AMOUNT) for link in range(1, 6)], (STEP, [AMOUNT] * 5 + [0]), (PLAN,), (STEP, [0] * 6),
                   (ROOM, 6, 1, AMOUNT), (PLAN,))
        self.assertEqual(told[-5:], [[0, 0], [0, 0], [-7], [0], [0, 0]])
        told = ask((OPEN, 2), (STORE, AMOUNT, 0, 0, 1), *[(LINK, 0, 1, 1)] * 2, (LINK, 1, 0, 0), (ROOM, 1, 1, AMOUNT),
                   (ROOM, 2, 1, 5), (ROOM, 3, 2, AMOUNT), (STEP, [AMOUNT, 5, 0]), (PLAN,), (STEP, [0, 0, 7]), (PLAN,))
        self.assertEqual(told[-4:], [[0, 0], [0, 1, AMOUNT, 0, 0, 5], [0, 0], [0, 1, AMOUNT - 2]])


if __name__ == "__main__":
    unittest.main()
