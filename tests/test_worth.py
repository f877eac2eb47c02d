"""levels, worth, more, wider and without: what the plan makes and earns, and what it would."""

import unittest

from tests.helper import (ADD, AMOUNT, FARTHEST, GAIN, GAIN_OF, INFLOW, LEAST, LEVELS, LEVELS_BY, LINK, MORE, OPEN, PLAN,
                          ROOM, STEP, STORE, WIDER, WITHOUT, WORTH, Asking, ask, gains, last, leasts, rooms)

# The plan sends 2, 4 and 4, and earns 74.
LAKE = [(OPEN, 3), (STORE, 10, 10, 0, 0), (LINK, 1, 0, 0), *rooms(1, [4, 4, 4]), *gains(1, [5, 9, 7])]

# Two lakes above one another; what leaves the upper one comes to the lower one a period later.
LAKES = [(OPEN, 2), (STORE, 9, 6, 0, 0), (STORE, 7, 1, 0, 0), (LINK, 1, 2, 1), (LINK, 2, 0, 0), *rooms(1, [9, 9]),
         *rooms(2, [9, 9]), *gains(1, [1, 0]), *gains(2, [3, 3])]

# The end can't be reached.
DRY = [(OPEN, 2), (STORE, 9, 1, 8, 5), (LINK, 0, 1, 0), *rooms(1, [3, 3])]

NO_STORES = [(OPEN, 3)]
NO_LINKS = [(OPEN, 2), (STORE, 9, 6, 0, 3), (STORE, 9, 1, 1, -2), (INFLOW, 1, 2, 3)]
NO_PERIODS = [(OPEN, 1), (STORE, 9, 6, 0, 3), (STORE, 9, 4, 4, -2), (LINK, 1, 2, 0), (ROOM, 1, 1, 1), (STEP, [0])]
NO_PERIODS_AND_DRY = NO_PERIODS + [(STORE, 5, 4, 5, 1)]

GREATEST = [(OPEN, 6), *[(STORE, 5, 3, 0, 1)] * 4, *[(LINK, 1, 2, 0)] * 6]


class Levels(Asking):

    def test_behind_each_period(self):
        self.answers(LAKE, (LEVELS,), [0, 1, 8, 4, 0])

    def test_store_by_store_then_period_by_period(self):
        self.assertEqual(last(*LAKES, (PLAN,)), [0, 1, 6 + 21, 6, 0, 0, 7])
        self.answers(LAKES, (LEVELS,), [0, 1, 0, 1, 0, 0])
        self.answers(LAKES + [(INFLOW, 1, 2, 5)], (LEVELS,), [0, 1, 0, 1, 5, 0])
        self.answers(LAKES + [(LEAST, 1, 2, 2)], (LEVELS,), [0, 1, 2, 1, 0, 0])

    def test_no_plan(self):
        self.answers(DRY, (LEVELS,), [0, 0])

    def test_few(self):
        self.answers(NO_STORES, (LEVELS,), [0, 1])
        self.answers(NO_LINKS, (LEVELS,), [0, 1, 6, 1, 9, 1])
        self.answers(NO_PERIODS, (LEVELS,), [0, 1])
        self.answers(NO_PERIODS_AND_DRY, (LEVELS,), [0, 0])
        self.answers([(OPEN, 1), (STEP, [])], (LEVELS,), [0, 1])

    def test_they_are_those_of_the_plan_s_sendings(self):
        for house in (LAKE, LAKES, NO_STORES, NO_LINKS, NO_PERIODS):
            plan = last(*house, (PLAN,))
            self.assertEqual(last(*house, (LEVELS,))[2:], last(*house, (LEVELS_BY, plan[3:]))[1:])

    def test_not_open(self):
        self.answers([], (LEVELS,), [-2])


class Worth(Asking):

    def test_what_the_plan_earns(self):
        self.answers(LAKE, (WORTH,), [0, 1, 74])
        self.answers(LAKES, (WORTH,), [0, 1, 27])
        self.answers(LAKE + [(STEP, [4])], (WORTH,), [0, 1, 9 * 4 + 7 * 2])

    def test_no_plan(self):
        self.answers(DRY, (WORTH,), [0, 0])

    def test_few(self):
        self.answers(NO_STORES, (WORTH,), [0, 1, 0])
        self.answers(NO_LINKS, (WORTH,), [0, 1, 27 - 2])
        self.answers(NO_PERIODS, (WORTH,), [0, 1, 10])
        self.answers(NO_PERIODS_AND_DRY, (WORTH,), [0, 0])
        self.answers(NO_PERIODS_AND_DRY + [(ADD,)], (WORTH,), [0, 0])

    def test_below_0(self):
        self.answers([(OPEN, 1), (STORE, AMOUNT, AMOUNT, 0, -GAIN)], (WORTH,), [0, 1, -AMOUNT * GAIN])

    def test_not_open(self):
        self.answers([], (WORTH,), [-2])


class Supposing(Asking):

    def refuses_out_of_range(self, before, call, at, wrongs):
        for wrong in wrongs:
            numbers = list(call)
            numbers[at] = wrong
            for house in (before, [], NO_STORES, NO_PERIODS):
                self.answers(house, tuple(numbers), [-1])


class More(Supposing):

    def test_more(self):
        self.answer_all(LAKE, {(MORE, 1, 1, 0): [0, 1, 74], (MORE, 1, 1, 1): [0, 1, 79], (MORE, 1, 3, 1): [0, 1, 79],
                               (MORE, 1, 1, 2): [0, 1, 84], (MORE, 1, 3, 2): [0, 1, 84], (MORE, 1, 3, 9): [0, 1, 84]})

    def test_it_comes_on_top_of_the_inflow(self):
        house = LAKE + [(INFLOW, 1, 1, 1), (INFLOW, 1, 2, 1)]
        self.answer_all(house, {(MORE, 1, 1, 0): [0, 1, 84], (MORE, 1, 1, -1): [0, 1, 79], (MORE, 1, 2, -2): [0, 1, 74]})

    def test_numbers_below_0(self):
        self.answer_all(LAKE, {(MORE, 1, 1, -1): [0, 1, 69], (MORE, 1, 1, -10): [0, 1, 0], (MORE, 1, 3, -4): [0, 1, 50],
                               (MORE, 1, 3, -10): [0, 1, 0], (MORE, 1, 2, -10): [0, 1, 0]})

    def test_a_plan_goes(self):
        none = [0, 0]
        self.answer_all(LAKE, {(MORE, 1, 1, 5): none, (MORE, 1, 1, -11): none, (MORE, 1, 2, -11): none,
                               (MORE, 1, 3, -11): none, (MORE, 1, 1, 4): [0, 1, 84], (MORE, 1, 1, AMOUNT): none,
                               (MORE, 1, 1, -AMOUNT): none, (MORE, 1, 3, AMOUNT): none})

    def test_a_plan_comes_to_be(self):
        self.answer_all(DRY, {(MORE, 1, 2, 0): [0, 0], (MORE, 1, 2, 1): [0, 1, 40], (MORE, 1, 1, 1): [0, 1, 40],
                              (MORE, 1, 1, 2): [0, 1, 45], (MORE, 1, 2, -1): [0, 0]})
        full = [(OPEN, 2), (STORE, 5, 5, 0, 1), (INFLOW, 1, 2, 2)]
        self.answer_all(full, {(MORE, 1, 2, -1): [0, 0], (MORE, 1, 2, -2): [0, 1, 5], (MORE, 1, 1, -2): [0, 1, 5],
                               (MORE, 1, 1, -5): [0, 1, 2], (MORE, 1, 1, -6): [0, 0], (MORE, 1, 2, -7): [0, 1, 0],
                               (MORE, 1, 2, -8): [0, 0]})

    def test_what_leaves_goes_through_a_store_that_gives(self):
        # What comes in a period may leave in it, into an inflow below 0 too.
        house = [(OPEN, 1), (STORE, 5, 0, 0, 0), (LINK, 0, 1, 0), (ROOM, 1, 1, 9), (GAIN_OF, 1, 1, -3)]
        self.answer_all(house, {(MORE, 1, 1, -9): [0, 1, -27], (MORE, 1, 1, -10): [0, 0], (MORE, 1, 1, 5): [0, 1, 0]})

    def test_each_store_has_its_own(self):
        house = [(OPEN, 2), (STORE, 9, 1, 0, 10), (STORE, 9, 2, 0, 100)]
        self.answer_all(house, {(MORE, 1, 1, 3): [0, 1, 240], (MORE, 2, 2, 3): [0, 1, 510], (MORE, 2, 1, -2): [0, 1, 10]})

    def test_great_numbers(self):
        house = [(OPEN, 1), (STORE, AMOUNT, 0, 0, GAIN), (INFLOW, 1, 1, AMOUNT), (LINK, 1, 0, 0), (ROOM, 1, 1, AMOUNT),
                 (GAIN_OF, 1, 1, GAIN)]
        self.answer_all(house, {(MORE, 1, 1, AMOUNT): [0, 1, 2 * AMOUNT * GAIN], (MORE, 1, 1, -AMOUNT): [0, 1, 0]})
        spent = [(OPEN, 2), (STORE, AMOUNT, AMOUNT, 0, -GAIN)]
        self.answer_all(spent, {(MORE, 1, 2, -AMOUNT): [0, 1, 0], (MORE, 1, 1, 1): [0, 0],
                                (MORE, 1, 1, 1 - AMOUNT): [0, 1, -GAIN]})

    def test_no_links(self):
        self.answer_all(NO_LINKS, {(MORE, 1, 2, -9): [0, 1, -2], (MORE, 1, 2, -10): [0, 0], (MORE, 1, 2, 1): [0, 0],
                                   (MORE, 2, 1, 8): [0, 1, 27 - 18], (MORE, 2, 1, -1): [0, 0]})

    def test_behind_a_step(self):
        house = [(OPEN, 3), (STORE, 9, 0, 0, 1), (LINK, 0, 1, 1), (ROOM, 1, 1, 4), (STEP, [4])]
        self.answer_all(house, {(MORE, 1, 1, -4): [0, 1, 0], (MORE, 1, 1, -5): [0, 0], (MORE, 1, 2, 5): [0, 1, 9],
                                (MORE, 1, 2, 6): [0, 0], (MORE, 1, 3, 0): [-8]})

    def test_out_of_range(self):
        self.refuses_out_of_range(LAKE, (MORE, 1, 1, 1), 1, (0, -1, 5, FARTHEST, -FARTHEST))
        self.refuses_out_of_range(LAKE, (MORE, 1, 1, 1), 2, (0, -1, 7, FARTHEST, -FARTHEST))
        self.refuses_out_of_range(LAKE, (MORE, 1, 1, 1), 3, (AMOUNT + 1, -AMOUNT - 1, FARTHEST, -FARTHEST))
        self.refuses_out_of_range(LAKE, (MORE, 4, 6, 1), 3, (AMOUNT + 1, -AMOUNT - 1, FARTHEST, -FARTHEST))

    def test_refusals_in_their_order(self):
        self.answers([], (MORE, 1, 1, 1), [-2])
        self.answers([], (MORE, 4, 6, -AMOUNT), [-2])
        self.answer_all(LAKE, {(MORE, 2, 1, 1): [-5], (MORE, 2, 4, 1): [-5], (MORE, 4, 6, AMOUNT): [-5],
                               (MORE, 1, 4, 1): [-8], (MORE, 1, 6, -AMOUNT): [-8]})
        self.answer_all(NO_PERIODS, {(MORE, 1, 1, 0): [-8], (MORE, 2, 6, 0): [-8], (MORE, 3, 1, 0): [-5]})
        self.answers(NO_STORES, (MORE, 1, 1, 1), [-5])
        self.answers(GREATEST, (MORE, 4, 6, 1), [0, 1, 13])


class Wider(Supposing):

    def test_wider(self):
        self.answer_all(LAKE, {(WIDER, 1, 2, 0): [0, 1, 74], (WIDER, 1, 2, 1): [0, 1, 78], (WIDER, 1, 1, 9): [0, 1, 74],
                               (WIDER, 1, 3, 1): [0, 1, 76], (WIDER, 1, 2, 6): [0, 1, 90], (WIDER, 1, 2, AMOUNT): [0, 1, 90]})

    def test_narrower(self):
        self.answer_all(LAKE, {(WIDER, 1, 2, -1): [0, 1, 70], (WIDER, 1, 2, -4): [0, 1, 48], (WIDER, 1, 1, -2): [0, 1, 74],
                               (WIDER, 1, 1, -3): [0, 1, 69]})

    def test_below_0_nothing_is_let(self):
        self.answer_all(LAKE, {(WIDER, 1, period, number): [0, 0] for period in (1, 2, 3) for number in (-5, -6, -AMOUNT)})

    def test_below_least_nothing_is_let(self):
        house = LAKE + [(LEAST, 1, 2, 3)]
        self.answer_all(house, {(WIDER, 1, 2, -1): [0, 1, 70], (WIDER, 1, 2, -2): [0, 0], (WIDER, 1, 2, -4): [0, 0],
                                (WIDER, 1, 2, -5): [0, 0], (WIDER, 1, 2, 1): [0, 1, 78], (WIDER, 1, 1, -4): [0, 1, 64]})

    def test_below_least_with_every_gain(self):
        for gain in (-GAIN, -1, 0, 1, GAIN):
            house = [(OPEN, 2), (STORE, 9, 9, 0, 1), (LINK, 1, 0, 0), *rooms(1, [5, 5]), *leasts(1, [2, 4]),
                     *gains(1, [gain, gain])]
            self.answers(house, (WIDER, 1, 1, -4), [0, 0])
            self.answers(house, (WIDER, 1, 2, -2), [0, 0])
            self.assertEqual(last(*house, (WIDER, 1, 2, -1))[:2], [0, 1])

    def test_below_least_where_nothing_else_forbids_it(self):
        # From outside to behind the last period: no store has part in it.
        house = [(OPEN, 1), (STORE, 9, 9, 0, 1), (LINK, 0, 1, 1), (ROOM, 1, 1, 5), (LEAST, 1, 1, 5)]
        self.answer_all(house, {(WIDER, 1, 1, -1): [0, 0], (WIDER, 1, 1, 0): [0, 1, 9], (WIDER, 1, 1, -6): [0, 0]})

    def test_above_an_amount(self):
        house = [(OPEN, 1), (STORE, AMOUNT, AMOUNT, 0, 0), (INFLOW, 1, 1, AMOUNT), (LINK, 1, 0, 0), (ROOM, 1, 1, AMOUNT),
                 (GAIN_OF, 1, 1, GAIN)]
        self.answer_all(house, {(WIDER, 1, 1, 0): [0, 1, AMOUNT * GAIN], (WIDER, 1, 1, AMOUNT): [0, 1, 2 * AMOUNT * GAIN],
                                (WIDER, 1, 1, 1): [0, 1, (AMOUNT + 1) * GAIN], (WIDER, 1, 1, -1): [0, 0]})

    def test_a_plan_comes_to_be(self):
        self.answer_all(DRY, {(WIDER, 1, 1, 0): [0, 0], (WIDER, 1, 1, 1): [0, 1, 40], (WIDER, 1, 2, 2): [0, 1, 45]})

    def test_a_plan_goes(self):
        house = DRY + [(INFLOW, 1, 1, 2)]
        self.answer_all(house, {(WIDER, 1, 2, -1): [0, 1, 40], (WIDER, 1, 2, -2): [0, 0]})

    def test_each_link_has_its_own(self):
        house = [(OPEN, 1), (STORE, 9, 9, 0, 0), (LINK, 1, 0, 0), (LINK, 1, 0, 0), (ROOM, 1, 1, 1), (ROOM, 2, 1, 1),
                 (GAIN_OF, 1, 1, 10), (GAIN_OF, 2, 1, 100)]
        self.answer_all(house, {(WIDER, 1, 1, 1): [0, 1, 120], (WIDER, 2, 1, 1): [0, 1, 210], (WIDER, 2, 1, -1): [0, 1, 10]})

    def test_behind_a_step(self):
        house = LAKE + [(STEP, [4])]
        self.answer_all(house, {(WIDER, 1, 1, 1): [0, 1, 45 + 7], (WIDER, 1, 2, 1): [0, 1, 50], (WIDER, 1, 3, 1): [-8]})

    def test_out_of_range(self):
        self.refuses_out_of_range(LAKE, (WIDER, 1, 1, 1), 1, (0, -1, 7, FARTHEST, -FARTHEST))
        self.refuses_out_of_range(LAKE, (WIDER, 1, 1, 1), 2, (0, -1, 7, FARTHEST, -FARTHEST))
        self.refuses_out_of_range(LAKE, (WIDER, 1, 1, 1), 3, (AMOUNT + 1, -AMOUNT - 1, FARTHEST, -FARTHEST))
        self.refuses_out_of_range(LAKE, (WIDER, 6, 6, 1), 3, (AMOUNT + 1, -AMOUNT - 1, FARTHEST, -FARTHEST))

    def test_refusals_in_their_order(self):
        self.answers([], (WIDER, 1, 1, 1), [-2])
        self.answers([], (WIDER, 6, 6, -AMOUNT), [-2])
        self.answer_all(LAKE, {(WIDER, 2, 1, 1): [-6], (WIDER, 2, 4, 1): [-6], (WIDER, 6, 6, AMOUNT): [-6],
                               (WIDER, 1, 4, 1): [-8], (WIDER, 1, 6, -AMOUNT): [-8]})
        self.answer_all(NO_PERIODS, {(WIDER, 1, 1, 0): [-8], (WIDER, 1, 6, 0): [-8], (WIDER, 2, 1, 0): [-6]})
        self.answers(NO_LINKS, (WIDER, 1, 1, 1), [-6])
        self.answers(GREATEST, (WIDER, 6, 6, 1), [0, 1, 12])


class Without(Supposing):

    def test_without(self):
        house = [(OPEN, 2), (STORE, 9, 9, 0, 1), (LINK, 1, 0, 0), (LINK, 1, 0, 0), *rooms(1, [2, 2]), *rooms(2, [3, 3]),
                 *gains(1, [5, 6]), *gains(2, [7, 8])]
        self.assertEqual(last(*house, (WORTH,)), [0, 1, 3 * 8 + 3 * 7 + 2 * 6 + 1 * 5])
        self.answer_all(house, {(WITHOUT, 1): [0, 1, 24 + 21 + 3], (WITHOUT, 2): [0, 1, 12 + 10 + 5]})

    def test_with_a_least(self):
        house = LAKE + leasts(1, [1, 2, 3])
        self.answers(house, (WITHOUT, 1), [0, 1, 0])

    def test_a_plan_comes_to_be(self):
        house = [(OPEN, 1), (STORE, 9, 1, 0, 2), (LINK, 1, 0, 0), (ROOM, 1, 1, 5), (LEAST, 1, 1, 3)]
        self.assertEqual(last(*house, (WORTH,)), [0, 0])
        self.answers(house, (WITHOUT, 1), [0, 1, 2])

    def test_a_link_that_the_only_plans_need(self):
        house = [(OPEN, 2), (STORE, 9, 1, 5, 1), (LINK, 0, 1, 0), (LINK, 0, 1, 0), *rooms(1, [9, 0]), *rooms(2, [0, 3])]
        self.assertEqual(last(*house, (WORTH,)), [0, 1, 9])
        self.answer_all(house, {(WITHOUT, 1): [0, 0], (WITHOUT, 2): [0, 1, 9]})
        full = [(OPEN, 1), (STORE, 5, 5, 0, 1), (INFLOW, 1, 1, 1), (LINK, 1, 0, 0), (ROOM, 1, 1, 1)]
        self.answers(full, (WITHOUT, 1), [0, 0])

    def test_a_link_that_the_others_lean_on(self):
        self.answer_all(LAKES, {(WITHOUT, 1): [0, 1, 3], (WITHOUT, 2): [0, 1, 6]})

    def test_what_was_sent_before_still_comes(self):
        house = [(OPEN, 3), (STORE, 9, 0, 0, 1), (LINK, 0, 1, 1), *rooms(1, [4, 4, 4]), (STEP, [4])]
        self.assertEqual(last(*house, (WORTH,)), [0, 1, 8])
        self.answers(house, (WITHOUT, 1), [0, 1, 4])

    def test_no_periods(self):
        self.answers(NO_PERIODS, (WITHOUT, 1), [0, 1, 10])
        self.answers(NO_PERIODS_AND_DRY, (WITHOUT, 1), [0, 0])

    def test_refusals(self):
        self.refuses_out_of_range(LAKE, (WITHOUT, 1), 1, (0, -1, 7, FARTHEST, -FARTHEST))
        for link in (1, 6):
            self.answers([], (WITHOUT, link), [-2])
        self.answer_all(LAKE, {(WITHOUT, 2): [-6], (WITHOUT, 6): [-6]})
        self.answers(NO_LINKS, (WITHOUT, 1), [-6])
        self.answers(NO_PERIODS, (WITHOUT, 2), [-6])
        self.answers(GREATEST, (WITHOUT, 6), [0, 1, 12])


class AskedInTurn(unittest.TestCase):

    def test_none_is_told_from_another(self):
        calls = [(WORTH,), (MORE, 1, 1, 1), (WORTH,), (WIDER, 1, 2, 1), (WORTH,), (WITHOUT, 1), (LEVELS,), (MORE, 1, 1, 5),
                 (PLAN,), (WIDER, 1, 2, -5), (LEVELS,), (STEP, [4]), (WITHOUT, 1), (WORTH,)]
        self.assertEqual(ask(*LAKE, *calls)[len(LAKE):], [
            [0, 1, 74], [0, 1, 79], [0, 1, 74], [0, 1, 78], [0, 1, 74], [0, 1, 0], [0, 1, 8, 4, 0], [0, 0],
            [0, 1, 74, 2, 4, 4], [0, 0], [0, 1, 8, 4, 0], [0, 20], [0, 1, 0], [0, 1, 50]])


if __name__ == "__main__":
    unittest.main()
