"""check and levelsBy: a schedule that is given."""

import unittest

from tests.helper import (ADD, AMOUNT, CHECK, FARTHEST, GAIN, GAIN_OF, INFLOW, LEAST, LEVELS_BY, LINK, OPEN, PLAN, ROOM,
                          STEP, STORE, Asking, ask, gains, last, leasts, rooms)

# Store 1 gives to outside by link 1 and to store 2, a period later, by link 2.
HOUSE = [(OPEN, 3), (STORE, 10, 5, 3, 1), (STORE, 6, 2, 0, 10), (LINK, 1, 0, 0), (LINK, 1, 2, 1), *rooms(1, [4, 9, 9]),
         *leasts(1, [1, 0, 0]), *rooms(2, [3, 3, 9]), *gains(1, [2, 3, 4]), *gains(2, [-1, -1, -1]), (INFLOW, 1, 2, 4),
         (INFLOW, 2, 3, 1)]

LENGTHS = [*range(38), 200]


def sized(periods, links):
    """A house in which any schedule is let."""
    return [(OPEN, periods), (STORE, AMOUNT, 0, 0, 0), *[(LINK, 0, 1, 0)] * links]


class Rows(Asking):

    def test_rows_of_every_length(self):
        for periods, links in ((1, 0), (6, 0), (1, 1), (1, 6), (6, 1), (3, 4), (5, 5), (6, 6)):
            house = sized(periods, links)
            for length in LENGTHS:
                told = ask(*house, (CHECK, [0] * length), (LEVELS_BY, [0] * length))[-2:]
                if length > 36:
                    self.assertEqual(told, [[-1], [-1]], length)
                elif length != periods * links:
                    self.assertEqual(told, [[-7], [-7]], length)
                else:
                    self.assertEqual(told, [[0, 1, 0], [0] + [0] * periods], length)

    def test_with_no_periods_the_row_is_empty(self):
        for links in (0, 1, 6):
            house = sized(1, links) + [(STEP, [0] * links)]
            for length in LENGTHS:
                refusal = [-1] if length > 36 else [-7]
                self.answers(house, (CHECK, [0] * length), refusal if length else [0, 1, 0])
                self.answers(house, (LEVELS_BY, [0] * length), refusal if length else [0])

    def test_not_open(self):
        for length in LENGTHS:
            for place in (CHECK, LEVELS_BY):
                self.answers([], (place, [5] * length), [-1] if length > 36 else [-2])

    def test_fewer_and_more_numbers(self):
        for length in (0, 1, 3, 5, 7, 12, 36):
            self.answers(HOUSE, (CHECK, [1] * length), [-7])
            self.answers(HOUSE, (LEVELS_BY, [1] * length), [-7])

    def test_as_many_as_there_are_now(self):
        for place in (CHECK, LEVELS_BY):
            for before, length in ((HOUSE, 6), (HOUSE + [(STEP, [1, 0])], 4), (HOUSE + [(ADD,)], 8),
                                   (HOUSE + [(LINK, 0, 1, 0)], 9), (HOUSE + [(STEP, [1, 0])] + [(STEP, [0, 0])] * 2, 0)):
                for many in range(12):
                    self.assertEqual(last(*before, (place, [0] * many))[0], 0 if many == length else -7)

    def test_out_of_range(self):
        for place in (CHECK, LEVELS_BY):
            for wrong in (-1, AMOUNT + 1, FARTHEST, -FARTHEST):
                for at in (0, 3, 5):
                    row = [1, 0, 0, 0, 0, 0]
                    row[at] = wrong
                    for house in (HOUSE, [], HOUSE + [(STEP, [1, 0])]):
                        self.answers(house, (place, row), [-1])
                self.answers(HOUSE, (place, [wrong]), [-1])
                self.answers([], (place, [wrong] * 200), [-1])
            self.answers(HOUSE, (place, [0] * 37), [-1])
            self.assertEqual(last(*HOUSE, (place, [AMOUNT] * 6))[0], 0)
            self.assertEqual(last(*HOUSE, (place, [0] * 6))[0], 0)

    def test_the_next_call_stands_behind_the_row(self):
        self.assertEqual(ask(*HOUSE, (CHECK, [0] * 200), (LEVELS_BY, [9] * 199), (CHECK, []), (LEVELS_BY, [15, 0]),
                             (LEVELS_BY, [1, 0, 0, 0, 0, 0]), (STEP, [1, 0]))[-6:],
                         [[-1], [-1], [-7], [-7], [0, 4, 2, 8, 2, 8, 3], [0, 2]])


class Check(Asking):

    def test_let(self):
        self.answers(HOUSE, (CHECK, [1, 0, 0, 0, 0, 0]), [0, 1, 2 + 8 + 30])
        self.answers(HOUSE, (CHECK, [1, 3, 2, 0, 0, 0]), [0, 1, 2 - 3 + 6 + 3 + 60])
        self.answers(HOUSE, (CHECK, [4, 1, 1, 0, 0, 0]), [0, 1, 8 - 1 + 3 + 3 + 40])
        self.answers(HOUSE, (CHECK, [1, 0, 0, 0, 0, 5]), [0, 1, 2 - 5 + 3 + 30])

    def test_the_plan_is_let_and_earns_what_it_tells(self):
        plan = last(*HOUSE, (PLAN,))
        self.answers(HOUSE, (CHECK, plan[3:]), [0, 1, plan[2]])

    def test_a_sending_below_least(self):
        self.answers(HOUSE, (CHECK, [0, 0, 0, 0, 0, 0]), [0, 0, 1])
        self.answers(HOUSE + [(LEAST, 2, 2, 2)], (CHECK, [1, 0, 0, 1, 0, 0]), [0, 0, 2])
        self.answers(HOUSE + [(LEAST, 2, 2, 2)], (CHECK, [1, 0, 0, 2, 0, 0]), [0, 1, 2 - 2 + 6 + 50])
        self.answers(HOUSE + [(LEAST, 1, 3, 2)], (CHECK, [1, 0, 0, 0, 1, 0]), [0, 0, 3])

    def test_a_sending_above_room(self):
        self.answers(HOUSE, (CHECK, [5, 0, 0, 0, 0, 0]), [0, 0, 1])
        self.answers(HOUSE, (CHECK, [1, 0, 0, 4, 0, 0]), [0, 0, 2])
        self.answers(HOUSE + [(ROOM, 1, 3, 2)], (CHECK, [1, 0, 0, 0, 3, 0]), [0, 0, 3])
        self.answers(HOUSE + [(ROOM, 1, 3, 2)], (CHECK, [1, 0, 0, 0, 2, 0]), [0, 1, 2 + 8 + 6 + 30])

    def test_a_level_below_0(self):
        self.answers(HOUSE, (CHECK, [3, 3, 0, 0, 0, 0]), [0, 0, 1])
        self.answers(HOUSE, (CHECK, [4, 1, 5, 0, 0, 0]), [0, 0, 2])
        self.answers(HOUSE, (CHECK, [1, 0, 9, 0, 0, 0]), [0, 0, 2])
        self.answers(HOUSE, (CHECK, [1, 0, 0, 0, 9, 0]), [0, 0, 3])

    def test_a_level_below_0_that_is_mended_later(self):
        house = [(OPEN, 3), (STORE, 9, 2, 0, 0), (LINK, 1, 0, 0), *rooms(1, [9, 9, 9]), (INFLOW, 1, 3, 9)]
        self.answers(house, (CHECK, [0, 3, 0]), [0, 0, 2])
        self.answers(house, (CHECK, [3, 0, 0]), [0, 0, 1])
        self.answers(house, (CHECK, [1, 1, 0]), [0, 1, 0])

    def test_a_level_above_the_cap(self):
        self.answers(HOUSE, (CHECK, [1, 3, 0, 3, 0, 0]), [0, 0, 3])
        self.answers(HOUSE + [(INFLOW, 1, 2, 6)], (CHECK, [1, 0, 0, 0, 0, 0]), [0, 1, 2 + 10 + 30])
        self.answers(HOUSE + [(INFLOW, 1, 2, 7)], (CHECK, [1, 0, 0, 0, 0, 0]), [0, 0, 2])
        self.answers(HOUSE + [(INFLOW, 1, 1, 7)], (CHECK, [1, 0, 0, 0, 0, 0]), [0, 0, 1])

    def test_a_level_below_the_end(self):
        self.answers(HOUSE, (CHECK, [1, 0, 0, 0, 5, 0]), [0, 1, 2 + 20 + 3 + 30])
        self.answers(HOUSE, (CHECK, [1, 0, 0, 0, 6, 0]), [0, 0, 3])
        self.answers(HOUSE, (CHECK, [1, 0, 7, 0, 0, 0]), [0, 0, 3])
        self.answers(HOUSE, (CHECK, [4, 1, 2, 0, 0, 0]), [0, 0, 3])
        self.answers([(OPEN, 1), (STORE, 9, 9, 0, 0), (STORE, 9, 3, 4, 0)], (CHECK, []), [0, 0, 1])
        self.answers([(OPEN, 6), (STORE, 9, 3, 4, 0)], (CHECK, []), [0, 0, 6])

    def test_the_end_is_asked_in_the_last_period_alone(self):
        house = [(OPEN, 2), (STORE, 9, 3, 3, 1), (LINK, 1, 0, 0), (ROOM, 1, 1, 3), (INFLOW, 1, 2, 3)]
        self.answers(house, (CHECK, [3, 0]), [0, 1, 3])
        self.answers(house + [(ADD,)], (CHECK, [3, 0, 0]), [0, 1, 3])
        self.answers(house + [(INFLOW, 1, 2, 2)], (CHECK, [3, 0]), [0, 0, 2])

    def test_two_reasons_in_different_periods(self):
        # In each pair the first period that isn't let is told, whatever the reason.
        below_0_then_above_room = [3, 3, 0, 4, 0, 0]
        self.answers(HOUSE, (CHECK, below_0_then_above_room), [0, 0, 1])
        above_room_then_below_0 = [5, 0, 9, 0, 0, 0]
        self.answers(HOUSE, (CHECK, above_room_then_below_0), [0, 0, 1])
        below_0_then_above_the_cap = [1, 3, 6, 3, 0, 0]
        self.answers(HOUSE, (CHECK, below_0_then_above_the_cap), [0, 0, 2])
        above_room_then_below_the_end = [1, 0, 0, 4, 9, 0]
        self.answers(HOUSE, (CHECK, above_room_then_below_the_end), [0, 0, 2])
        below_0_then_below_least = [1, 0, 9, 0, 0, 0]
        self.answers(HOUSE + [(LEAST, 2, 3, 1)], (CHECK, below_0_then_below_least), [0, 0, 2])
        below_least_then_above_the_cap = [0, 0, 0, 0, 0, 0]
        self.answers(HOUSE + [(INFLOW, 1, 2, 9)], (CHECK, below_least_then_above_the_cap), [0, 0, 1])
        above_the_cap_then_above_room = [1, 0, 0, 0, 0, 10]
        self.answers(HOUSE + [(INFLOW, 1, 2, 7)], (CHECK, above_the_cap_then_above_room), [0, 0, 2])
        above_the_cap_then_below_the_end = [1, 0, 0, 0, 9, 0]
        self.answers(HOUSE + [(INFLOW, 1, 2, 7)], (CHECK, above_the_cap_then_below_the_end), [0, 0, 2])

    def test_each_store_and_each_link_is_looked_at(self):
        house = [(OPEN, 2), *[(STORE, 5, 1, 1, 0)] * 4, *[(LINK, 0, 1, 5)] * 6]
        house += [call for link in range(1, 7) for call in rooms(link, [1, 1])]
        self.answers(house, (CHECK, [1] * 12), [0, 1, 0])
        for at in range(12):
            row = [1] * 12
            row[at] = 2
            self.answers(house, (CHECK, row), [0, 0, at // 6 + 1])
        for store in range(1, 5):
            for period in (1, 2):
                self.answers(house + [(INFLOW, store, period, 5)], (CHECK, [0] * 12), [0, 0, period])

    def test_no_periods(self):
        house = [(OPEN, 1), (STORE, 9, 6, 0, 3), (LINK, 1, 0, 0), (ROOM, 1, 1, 9), (STEP, [1])]
        self.answers(house, (CHECK, []), [0, 1, 15])
        dry = house + [(STORE, 9, 4, 5, -10)]
        self.assertEqual(last(*dry, (PLAN,)), [0, 0])
        self.answers(dry, (CHECK, []), [0, 1, 15 - 40])
        self.answers(dry + [(ADD,)], (CHECK, [0]), [0, 0, 1])
        self.answers([(OPEN, 1), (STEP, [])], (CHECK, []), [0, 1, 0])

    def test_no_stores_and_no_links(self):
        self.answers([(OPEN, 4)], (CHECK, []), [0, 1, 0])
        self.answers([(OPEN, 2), (STORE, 9, 6, 0, 3)], (CHECK, []), [0, 1, 18])
        self.answers([(OPEN, 2), (STORE, 9, 6, 0, 3), (INFLOW, 1, 2, 4)], (CHECK, []), [0, 0, 2])

    def test_great_numbers(self):
        house = [(OPEN, 6), (STORE, AMOUNT, 0, 0, 0), *[(LINK, 0, 1, 5)] * 6]
        for link in range(1, 7):
            house += rooms(link, [AMOUNT] * 6)
        row = [0] * 6 + [AMOUNT] * 30
        self.answers(house, (CHECK, row), [0, 1, 0])
        for gain in (GAIN, -GAIN):
            paid = [(GAIN_OF, link, period, gain) for link in range(1, 7) for period in range(1, 7)]
            self.assertEqual(last(*house, *paid, (CHECK, row)), [0, 1, 30 * AMOUNT * gain])


class LevelsBy(Asking):

    def test_levels_of_a_schedule_that_is_let(self):
        self.answers(HOUSE, (LEVELS_BY, [1, 0, 0, 0, 0, 0]), [0, 4, 2, 8, 2, 8, 3])
        self.answers(HOUSE, (LEVELS_BY, [1, 3, 2, 0, 0, 0]), [0, 1, 2, 3, 5, 3, 6])
        self.answers(HOUSE, (LEVELS_BY, [4, 1, 1, 0, 0, 0]), [0, 0, 2, 3, 3, 3, 4])

    def test_let_or_not(self):
        self.answers(HOUSE, (LEVELS_BY, [0, 0, 0, 0, 0, 0]), [0, 5, 2, 9, 2, 9, 3])
        self.answers(HOUSE, (LEVELS_BY, [5, 0, 0, 4, 0, 0]), [0, 0, 2, 0, 2, 0, 7])
        self.answers(HOUSE, (LEVELS_BY, [1, 0, 0, 0, 6, 0]), [0, 4, 2, 8, 2, 2, 3])

    def test_below_0_and_above_the_cap(self):
        self.answers(HOUSE, (LEVELS_BY, [9, 9, 0, 0, 0, 0]), [0, -13, 2, -9, 11, -9, 12])
        self.answers(HOUSE + [(INFLOW, 1, 1, 9)], (LEVELS_BY, [0, 0, 0, 9, 0, 0]), [0, 14, 2, 9, 2, 9, 12])

    def test_delays(self):
        for delay in range(6):
            house = [(OPEN, 6), (STORE, 9, 4, 0, 0), (STORE, 9, 1, 0, 0), (LINK, 1, 2, delay)]
            for period in range(6):
                row = [0] * 6
                row[period] = 3
                told = [0]
                for behind in range(6):
                    told += [1 if behind >= period else 4, 4 if behind >= period + delay else 1]
                self.answers(house, (LEVELS_BY, row), told)

    def test_what_comes_later_from_outside(self):
        house = [(OPEN, 3), (STORE, 9, 0, 0, 0), (LINK, 0, 1, 2), (LINK, 1, 0, 2)]
        self.answers(house, (LEVELS_BY, [7, 1, 8, 2, 9, 3]), [0, -1, -3, 1])

    def test_no_periods_no_stores_no_links(self):
        self.answers([(OPEN, 1), (STORE, 9, 4, 5, 0), (LINK, 0, 1, 0), (STEP, [0])], (LEVELS_BY, []), [0])
        self.answers([(OPEN, 6)], (LEVELS_BY, []), [0])
        self.answers([(OPEN, 2), (STORE, 9, 4, 5, 0), (INFLOW, 1, 2, 9)], (LEVELS_BY, []), [0, 4, 13])

    def test_behind_a_step(self):
        house = HOUSE + [(STEP, [1, 3])]
        self.answers(house, (LEVELS_BY, [0, 0, 0, 0]), [0, 5, 5, 5, 6])
        self.answers(house, (LEVELS_BY, [2, 1, 0, 9]), [0, 2, 5, -7, 7])

    def test_great_numbers(self):
        for source, goal, sign in ((0, 1, 1), (1, 0, -1)):
            house = [(OPEN, 6), (STORE, 0, 0, 0, 0), *[(LINK, source, goal, 0)] * 6]
            self.answers(house, (LEVELS_BY, [AMOUNT] * 36), [0, *[sign * 6 * period * AMOUNT for period in range(1, 7)]])


if __name__ == "__main__":
    unittest.main()
