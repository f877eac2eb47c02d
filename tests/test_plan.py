"""plan: the schedule that earns most, and which one of several."""

import unittest

from tests.helper import (ADD, AMOUNT, GAIN, GAIN_OF, INFLOW, LEAST, LINK, OPEN, PLAN, ROOM, STEP, STORE, ask, gains, last,
                          leasts, rooms)


def plan(*calls):
    return last(*calls, (PLAN,))


class Plain(unittest.TestCase):

    def test_water_is_held_till_it_is_worth_most(self):
        house = [(OPEN, 3), (STORE, 10, 10, 0, 0), (LINK, 1, 0, 0), *rooms(1, [4, 4, 4]), *gains(1, [5, 9, 7])]
        self.assertEqual(plan(*house), [0, 1, 10 + 36 + 28, 2, 4, 4])

    def test_a_battery_buys_and_sells(self):
        house = [(OPEN, 4), (STORE, 5, 0, 0, 0), (LINK, 0, 1, 0), (LINK, 1, 0, 0), *rooms(1, [3] * 4), *rooms(2, [4] * 4),
                 *gains(1, [-2, -1, -8, -6]), *gains(2, [1, 1, 7, 9])]
        self.assertEqual(plan(*house), [0, 1, -4 - 3 + 28 - 18 + 36, 2, 0, 3, 0, 0, 4, 3, 4])

    def test_lakes_above_one_another(self):
        house = [(OPEN, 2), (STORE, 9, 6, 0, 0), (STORE, 4, 1, 0, 0), (LINK, 1, 2, 1), (LINK, 2, 0, 0), *rooms(1, [9, 9]),
                 *rooms(2, [9, 9]), *gains(1, [1, 0]), *gains(2, [3, 3])]
        self.assertEqual(plan(*house), [0, 1, 6 + 21, 6, 0, 0, 7])

    def test_it_changes_nothing(self):
        house = [(OPEN, 2), (STORE, 9, 6, 0, 1), (LINK, 1, 0, 0), *rooms(1, [3, 3]), *gains(1, [2, 3])]
        told = ask(*house, (PLAN,), (PLAN,), (STEP, [1]), (PLAN,), (PLAN,))
        self.assertEqual(told[-5:], [[0, 1, 15, 3, 3], [0, 1, 15, 3, 3], [0, 2], [0, 1, 11, 3], [0, 1, 11, 3]])


class Few(unittest.TestCase):

    def test_no_stores(self):
        self.assertEqual(plan((OPEN, 1)), [0, 1, 0])
        self.assertEqual(plan((OPEN, 6)), [0, 1, 0])
        self.assertEqual(plan((OPEN, 1), (STEP, [])), [0, 1, 0])

    def test_no_links(self):
        house = [(OPEN, 2), (STORE, 9, 6, 0, 3), (STORE, 9, 1, 1, -2)]
        self.assertEqual(plan(*house), [0, 1, 16])
        self.assertEqual(plan(*house, (INFLOW, 1, 2, 3)), [0, 1, 25])
        self.assertEqual(plan(*house, (INFLOW, 1, 2, 4)), [0, 0])
        self.assertEqual(plan((OPEN, 2), (STORE, 9, 6, 7, 3)), [0, 0])
        self.assertEqual(plan((OPEN, 2), (STORE, 9, 6, 7, 3), (INFLOW, 1, 2, 1)), [0, 1, 21])

    def test_no_periods(self):
        house = [(OPEN, 1), (STORE, 9, 6, 0, 3), (STORE, 9, 4, 4, -2), (LINK, 1, 2, 0), (STEP, [0])]
        self.assertEqual(plan(*house), [0, 1, 10])
        self.assertEqual(plan(*house, (STORE, 5, 5, 5, GAIN)), [0, 1, 10 + 5 * GAIN])
        self.assertEqual(plan(*house, (STORE, 5, 4, 5, GAIN)), [0, 0])
        self.assertEqual(plan(*house, (STORE, 5, 0, 1, 0)), [0, 0])
        self.assertEqual(plan(*house, (STORE, 0, 0, 0, GAIN)), [0, 1, 10])
        self.assertEqual(plan(*house, (STORE, 5, 4, 5, GAIN), (ADD,)), [0, 0])


class NoPlan(unittest.TestCase):

    def test_an_end_above_what_can_be_there(self):
        house = [(OPEN, 2), (STORE, 9, 1, 8, 0), (LINK, 0, 1, 0)]
        self.assertEqual(plan(*house, *rooms(1, [3, 3])), [0, 0])
        self.assertEqual(plan(*house, *rooms(1, [3, 4])), [0, 1, 0, 3, 4])
        late = [(OPEN, 2), (STORE, 9, 1, 8, 0), (LINK, 0, 1, 1)]
        self.assertEqual(plan(*late, *rooms(1, [6, 9])), [0, 0])
        self.assertEqual(plan(*late, *rooms(1, [7, 9])), [0, 1, 0, 7, 0])

    def test_a_least_that_empties_a_store(self):
        house = [(OPEN, 2), (STORE, 9, 3, 0, 0), (LINK, 1, 0, 0), *rooms(1, [2, 2])]
        self.assertEqual(plan(*house, *leasts(1, [2, 1])), [0, 1, 0, 2, 1])
        self.assertEqual(plan(*house, *leasts(1, [2, 2])), [0, 0])
        self.assertEqual(plan(*house, *leasts(1, [2, 2]), (INFLOW, 1, 2, 1)), [0, 1, 0, 2, 2])

    def test_more_than_the_cap(self):
        house = [(OPEN, 3), (STORE, 9, 9, 0, 0), (LINK, 1, 0, 0), *rooms(1, [0, 2, 0]), (INFLOW, 1, 2, 2)]
        self.assertEqual(plan(*house), [0, 1, 0, 0, 2, 0])
        self.assertEqual(plan(*house, (INFLOW, 1, 2, 3)), [0, 0])
        self.assertEqual(plan(*house, (INFLOW, 1, 1, 1)), [0, 0])
        self.assertEqual(plan(*house, (INFLOW, 1, 3, 1)), [0, 0])

    def test_a_least_into_a_full_store(self):
        house = [(OPEN, 1), (STORE, 5, 5, 0, 0), (LINK, 0, 1, 0), (LINK, 1, 0, 0), (ROOM, 1, 1, 2), (LEAST, 1, 1, 2)]
        self.assertEqual(plan(*house), [0, 0])
        self.assertEqual(plan(*house, (ROOM, 2, 1, 1)), [0, 0])
        self.assertEqual(plan(*house, (ROOM, 2, 1, 2)), [0, 1, 0, 2, 2])

    def test_a_house_may_have_a_plan_again(self):
        told = ask((OPEN, 1), (STORE, 5, 0, 3, 1), (LINK, 0, 1, 0), (PLAN,), (ROOM, 1, 1, 4), (PLAN,), (ROOM, 1, 1, 2),
                   (PLAN,))
        self.assertEqual(told[3:], [[0, 0], [0], [0, 1, 4, 4], [0], [0, 0]])


class Binding(unittest.TestCase):

    def test_ends(self):
        for end, sent in ((0, [3, 5]), (2, [1, 5]), (4, [0, 4]), (8, [0, 0])):
            house = [(OPEN, 2), (STORE, 8, 8, end, 0), (LINK, 1, 0, 0), *rooms(1, [5, 5]), *gains(1, [1, 2])]
            self.assertEqual(plan(*house), [0, 1, sent[0] + 2 * sent[1], *sent], end)

    def test_the_end_is_asked_behind_the_last_period_alone(self):
        house = [(OPEN, 2), (STORE, 8, 8, 8, 0), (LINK, 1, 0, 0), (ROOM, 1, 1, 5), (GAIN_OF, 1, 1, 1), (LINK, 0, 1, 0),
                 (ROOM, 2, 2, 4)]
        self.assertEqual(plan(*house), [0, 1, 4, 4, 0, 0, 4])

    def test_caps(self):
        for cap, sent in ((3, [3, 0, 0, 3]), (5, [5, 0, 0, 5]), (9, [6, 0, 0, 6])):
            house = [(OPEN, 2), (STORE, cap, 0, 0, 0), (LINK, 0, 1, 0), (LINK, 1, 0, 0), (ROOM, 1, 1, 6), (ROOM, 2, 2, 9),
                     (GAIN_OF, 2, 2, 1)]
            self.assertEqual(plan(*house), [0, 1, sent[0], *sent], cap)

    def test_left_values(self):
        for left, sent in ((0, [2, 3]), (4, [2, 3]), (5, [0, 3]), (6, [0, 3]), (9, [0, 0]), (10, [0, 0])):
            house = [(OPEN, 2), (STORE, 8, 5, 0, left), (LINK, 1, 0, 0), *rooms(1, [3, 3]), *gains(1, [5, 9])]
            self.assertEqual(plan(*house), [0, 1, 5 * sent[0] + 9 * sent[1] + left * (5 - sum(sent)), *sent], left)

    def test_left_values_below_0(self):
        house = [(OPEN, 1), (STORE, 8, 5, 1, -3), (LINK, 1, 0, 0), (ROOM, 1, 1, 9)]
        self.assertEqual(plan(*house, (GAIN_OF, 1, 1, -2)), [0, 1, -11, 4])
        self.assertEqual(plan(*house, (GAIN_OF, 1, 1, -3)), [0, 1, -15, 0])
        self.assertEqual(plan(*house, (GAIN_OF, 1, 1, -4)), [0, 1, -15, 0])

    def test_gains_below_0(self):
        house = [(OPEN, 2), (STORE, 8, 0, 3, 0), (LINK, 0, 1, 0), *rooms(1, [2, 2]), *gains(1, [-5, -4])]
        self.assertEqual(plan(*house), [0, 1, -13, 1, 2])
        self.assertEqual(plan(*house, (LEAST, 1, 1, 2)), [0, 1, -14, 2, 1])

    def test_rounds_that_earn(self):
        house = [(OPEN, 1), (STORE, 3, 0, 0, 0), (STORE, 3, 0, 0, 0), (LINK, 1, 2, 0), (LINK, 2, 1, 0), (ROOM, 1, 1, 50),
                 (ROOM, 2, 1, 40)]
        self.assertEqual(plan(*house, (GAIN_OF, 1, 1, 3), (GAIN_OF, 2, 1, -2)), [0, 1, 40, 40, 40])
        self.assertEqual(plan(*house, (GAIN_OF, 1, 1, 2), (GAIN_OF, 2, 1, -2)), [0, 1, 0, 0, 0])


class Delays(unittest.TestCase):

    def test_within_the_periods(self):
        for delay in range(6):
            house = [(OPEN, 6), (STORE, 9, 0, 0, 1), (LINK, 0, 1, delay), (ROOM, 1, 1, 9)]
            self.assertEqual(plan(*house), [0, 1, 9, 9, 0, 0, 0, 0, 0], delay)

    def test_behind_the_last_period(self):
        for periods in range(1, 6):
            house = [(OPEN, periods), (STORE, 9, 0, 0, 1), (LINK, 0, 1, 5), *rooms(1, [9] * periods)]
            self.assertEqual(plan(*house), [0, 1, 0] + [0] * periods)
            self.assertEqual(plan(*house, (GAIN_OF, 1, 1, 2)), [0, 1, 18, 9] + [0] * (periods - 1))
            self.assertEqual(plan(*house, (GAIN_OF, 1, periods, 2), (ROOM, 1, periods, AMOUNT)),
                             [0, 1, 2 * AMOUNT] + [0] * (periods - 1) + [AMOUNT])
            self.assertEqual(plan(*house, (LEAST, 1, 1, 3), (GAIN_OF, 1, 1, -2)), [0, 1, -6, 3] + [0] * (periods - 1))

    def test_what_is_lost_leaves_its_source(self):
        house = [(OPEN, 2), (STORE, 9, 9, 0, 1), (STORE, 5, 0, 0, 3), (LINK, 1, 2, 1), *rooms(1, [9, 9])]
        self.assertEqual(plan(*house), [0, 1, 4 + 15, 5, 0])
        self.assertEqual(plan(*house, (GAIN_OF, 1, 2, 2)), [0, 1, 15 + 8, 5, 4])

    def test_it_must_be_there_in_time(self):
        house = [(OPEN, 4), (STORE, 9, 9, 0, 0), (STORE, 9, 0, 0, 0), (LINK, 1, 2, 2), (LINK, 2, 0, 0), *rooms(1, [3] * 4),
                 *rooms(2, [9] * 4), *gains(2, [9, 9, 5, 7])]
        self.assertEqual(plan(*house), [0, 1, 42, 3, 0, 3, 0, 0, 0, 0, 6])
        self.assertEqual(plan(*house, (LEAST, 2, 3, 3)), [0, 1, 36, 3, 0, 3, 0, 0, 3, 0, 3])
        self.assertEqual(plan(*house, (LEAST, 2, 3, 4)), [0, 0])
        self.assertEqual(plan(*house, (LEAST, 2, 2, 1)), [0, 0])


class Several(unittest.TestCase):

    def test_nothing_is_sent_for_nothing(self):
        house = [(OPEN, 2), (STORE, AMOUNT, AMOUNT // 2, 0, 0), (LINK, 0, 1, 0), (LINK, 1, 0, 0), *rooms(1, [AMOUNT] * 2),
                 *rooms(2, [AMOUNT] * 2)]
        self.assertEqual(plan(*house), [0, 1, 0, 0, 0, 0, 0])

    def test_later_periods_send_first(self):
        house = [(OPEN, 3), (STORE, AMOUNT, AMOUNT, 0, 0), (LINK, 1, 0, 0), *rooms(1, [AMOUNT, 600000000, 300000000]),
                 *gains(1, [7, 7, 7])]
        self.assertEqual(plan(*house), [0, 1, 7 * AMOUNT, 100000000, 600000000, 300000000])

    def test_later_links_send_first(self):
        house = [(OPEN, 1), (STORE, AMOUNT, AMOUNT, 0, 0)] + [(LINK, 1, 0, 0)] * 3
        for link, amount in ((1, AMOUNT), (2, 600000000), (3, 300000000)):
            house += [(ROOM, link, 1, amount), (GAIN_OF, link, 1, 7)]
        self.assertEqual(plan(*house), [0, 1, 7 * AMOUNT, 100000000, 600000000, 300000000])

    def test_the_period_comes_before_the_link(self):
        house = [(OPEN, 2), (STORE, AMOUNT, AMOUNT, 0, 0), (LINK, 1, 0, 0), (LINK, 1, 0, 0), *rooms(1, [AMOUNT] * 2),
                 *rooms(2, [AMOUNT] * 2), *gains(1, [1, 1]), *gains(2, [1, 1])]
        self.assertEqual(plan(*house), [0, 1, AMOUNT, 0, 0, 0, AMOUNT])
        self.assertEqual(plan(*house, (ROOM, 2, 2, 5)), [0, 1, AMOUNT, 0, 0, AMOUNT - 5, 5])
        self.assertEqual(plan(*house, (ROOM, 2, 2, 5), (ROOM, 1, 2, 4)), [0, 1, AMOUNT, 0, AMOUNT - 9, 4, 5])
        self.assertEqual(plan(*house, (ROOM, 2, 2, 5), (ROOM, 1, 2, 4), (ROOM, 2, 1, 3)),
                         [0, 1, AMOUNT, AMOUNT - 12, 3, 4, 5])

    def test_one_earlier_sending_outweighs_many_later_ones(self):
        # Link 1 fills the last store alone; links 2 to 4 do it one behind another, with more sent in all.
        house = [(OPEN, 1), (STORE, 9, 0, 0, 0), (STORE, 9, 0, 0, 0), (STORE, AMOUNT, 0, 0, 5)]
        house += [(LINK, 0, 3, 0), (LINK, 0, 1, 0), (LINK, 1, 2, 0), (LINK, 2, 3, 0)]
        house += [(ROOM, link, 1, AMOUNT) for link in range(1, 5)]
        self.assertEqual(plan(*house), [0, 1, 5 * AMOUNT, 0, AMOUNT, AMOUNT, AMOUNT])
        self.assertEqual(plan(*house, (ROOM, 3, 1, 7)), [0, 1, 5 * AMOUNT, AMOUNT - 7, 7, 7, 7])

    def test_one_unit_of_gain_outweighs_the_order(self):
        house = [(OPEN, 6), (STORE, AMOUNT, AMOUNT, 0, 0)]
        for link in range(1, 7):
            house += [(LINK, 1, 0, 0), *rooms(link, [AMOUNT] * 6), *gains(link, [GAIN - 1] * 6)]
        none = [0] * 36
        self.assertEqual(plan(*house), [0, 1, AMOUNT * (GAIN - 1)] + none[:-1] + [AMOUNT])
        for link, period in ((1, 1), (6, 1), (3, 4), (5, 6)):
            sent = list(none)
            sent[(period - 1) * 6 + link - 1] = AMOUNT
            self.assertEqual(plan(*house, (GAIN_OF, link, period, GAIN)), [0, 1, AMOUNT * GAIN] + sent)

    def test_leaving_it_in_the_store_is_chosen_before_sending(self):
        house = [(OPEN, 1), (STORE, AMOUNT, AMOUNT, 0, 3), (LINK, 1, 0, 0), (ROOM, 1, 1, AMOUNT), (GAIN_OF, 1, 1, 3)]
        self.assertEqual(plan(*house), [0, 1, 3 * AMOUNT, 0])

    def test_which_store_gives(self):
        house = [(OPEN, 1), (STORE, 9, 9, 0, 1), (STORE, 9, 9, 0, 1), (STORE, 9, 0, 6, 1), (LINK, 1, 3, 0), (LINK, 2, 3, 0),
                 (ROOM, 1, 1, 9), (ROOM, 2, 1, 9)]
        self.assertEqual(plan(*house), [0, 1, 18, 0, 6])
        self.assertEqual(plan(*house, (ROOM, 2, 1, 4)), [0, 1, 18, 2, 4])

    def test_all_are_tied_with_delays(self):
        house = [(OPEN, 3), (STORE, 9, 0, 6, 0), (LINK, 0, 1, 1), (LINK, 0, 1, 0), *rooms(1, [4, 4, 4]), *rooms(2, [1, 1, 1])]
        self.assertEqual(plan(*house), [0, 1, 0, 0, 0, 4, 1, 0, 1])
        self.assertEqual(plan(*house, (ROOM, 1, 2, 2)), [0, 1, 0, 1, 1, 2, 1, 0, 1])


if __name__ == "__main__":
    unittest.main()
