"""askStore, askLink and state: what the house keeps."""

import unittest

from tests.helper import (ADD, AMOUNT, ASK_LINK, ASK_STORE, CHECK, FARTHEST, GAIN, GAIN_OF, INFLOW, LEAST, LEVELS,
                          LEVELS_BY, LINK, MORE, OPEN, PLAN, ROOM, STATE, STEP, STORE, VIEW, WIDER, WITHOUT, WORTH, Asking,
                          ask, gains, last, leasts, rooms)

HOUSE = [(OPEN, 3), (STORE, 10, 5, 3, -1), (STORE, 6, 2, 0, 10), (LINK, 1, 0, 0), (LINK, 1, 2, 1), *rooms(1, [4, 8, 9]),
         *leasts(1, [1, 0, 2]), *rooms(2, [3, 2, 7]), *gains(1, [2, 3, 4]), *gains(2, [-5, -6, -7]), (INFLOW, 1, 2, 4),
         (INFLOW, 2, 3, 1)]

REFUSED = [(OPEN, 0), (OPEN, 2), (STORE, 1, 2, 0, 0), (STORE, -1, 0, 0, 0), (INFLOW, 3, 1, 1), (INFLOW, 1, 4, 1),
           (INFLOW, 1, 1, -1), (LINK, 1, 1, 0), (LINK, 0, 3, 0), (LINK, 0, 1, 6), (ROOM, 1, 1, 0), (ROOM, 3, 1, 0),
           (ROOM, 1, 4, 0), (LEAST, 1, 1, 5), (LEAST, 1, 1, -1), (GAIN_OF, 1, 4, 0), (GAIN_OF, 1, 1, GAIN + 1),
           (STEP, [0, 0]), (STEP, [1]), (STEP, [3, 3]), (STEP, [-1, 0]), (MORE, 3, 1, 1), (WIDER, 3, 1, 1), (WITHOUT, 3),
           (CHECK, [1]), (LEVELS_BY, [1]), (ASK_STORE, 3), (ASK_LINK, 3)]

ASKING = [(PLAN,), (LEVELS,), (WORTH,), (MORE, 1, 1, 7), (MORE, 2, 3, -7), (WIDER, 1, 1, 7), (WIDER, 2, 2, -7),
          (WITHOUT, 1), (WITHOUT, 2), (CHECK, [1, 2, 3, 4, 5, 6]), (LEVELS_BY, [1, 2, 3, 4, 5, 6]), (ASK_STORE, 1),
          (ASK_LINK, 1), (STATE,)]


class AskStore(Asking):

    def store(self, number, *calls):
        return last(*HOUSE, *calls, (ASK_STORE, number))

    def test_all_its_numbers(self):
        self.answers(HOUSE, (ASK_STORE, 1), [0, 10, 5, 3, -1, 0, 4, 0])
        self.answers(HOUSE, (ASK_STORE, 2), [0, 6, 2, 0, 10, 0, 0, 1])
        self.answers([(OPEN, 6), (STORE, AMOUNT, AMOUNT, AMOUNT, -GAIN)], (ASK_STORE, 1),
                     [0, AMOUNT, AMOUNT, AMOUNT, -GAIN] + [0] * 6)

    def test_inflows_that_are_set(self):
        self.assertEqual(self.store(1, (INFLOW, 1, 1, AMOUNT), (INFLOW, 1, 2, 0)), [0, 10, 5, 3, -1, AMOUNT, 0, 0])
        self.assertEqual(self.store(1, (INFLOW, 2, 1, 9)), [0, 10, 5, 3, -1, 0, 4, 0])

    def test_what_links_have_is_not_shown(self):
        self.assertEqual(self.store(1, (ROOM, 1, 1, 3), (LEAST, 1, 1, 2), (GAIN_OF, 1, 1, 9)), self.store(1))

    def test_a_period_more(self):
        self.assertEqual(self.store(2, (ADD,)), [0, 6, 2, 0, 10, 0, 0, 1, 0])
        self.assertEqual(self.store(2, (ADD,), (ADD,), (INFLOW, 2, 5, 8)), [0, 6, 2, 0, 10, 0, 0, 1, 0, 8])

    def test_steps(self):
        self.assertEqual(self.store(1, (STEP, [1, 3])), [0, 10, 1, 3, -1, 4, 0])
        self.assertEqual(self.store(2, (STEP, [1, 3])), [0, 6, 2, 0, 10, 3, 1])
        self.assertEqual(self.store(2, (STEP, [1, 3]), (STEP, [0, 2])), [0, 6, 5, 0, 10, 3])
        self.assertEqual(self.store(2, (STEP, [1, 3]), (STEP, [0, 0]), (STEP, [2, 3])), [0, 6, 6, 0, 10])
        self.assertEqual(self.store(2, (STEP, [1, 3]), (STEP, [0, 2]), (INFLOW, 2, 1, 1)), [0, 6, 5, 0, 10, 1])

    def test_what_comes_behind_the_last_period_is_lost(self):
        calls = [(STEP, [1, 0]), (STEP, [0, 0]), (STEP, [2, 4]), (ADD,)]
        self.assertEqual(self.store(2, *calls), [0, 6, 3, 0, 10, 0])
        self.assertEqual(self.store(1, *calls), [0, 10, 2, 3, -1, 0])

    def test_later_periods(self):
        for delay in range(1, 6):
            house = [(OPEN, 6), (STORE, 9, 0, 0, 0), (LINK, 0, 1, delay), (ROOM, 1, 1, 7), (INFLOW, 1, 4, 1), (STEP, [7])]
            inflows = [0, 0, 1, 0, 0]
            inflows[delay - 1] += 7
            self.answers(house, (ASK_STORE, 1), [0, 9, 0, 0, 0] + inflows)

    def test_inflows_above_an_amount(self):
        house = [(OPEN, 2), (STORE, AMOUNT, 0, 0, 0), *[(LINK, 0, 1, 1)] * 6, (INFLOW, 1, 2, AMOUNT),
                 *[(ROOM, link, 1, AMOUNT) for link in range(1, 7)], (STEP, [AMOUNT] * 6)]
        self.answers(house, (ASK_STORE, 1), [0, AMOUNT, 0, 0, 0, 7 * AMOUNT])

    def test_a_store_that_comes_later(self):
        self.assertEqual(self.store(3, (STEP, [1, 0]), (STORE, 7, 6, 5, 4)), [0, 7, 6, 5, 4, 0, 0])
        none_left = [(STEP, [1, 0]), (STEP, [0, 0]), (STEP, [2, 0]), (STORE, 7, 6, 5, 4)]
        self.assertEqual(self.store(3, *none_left), [0, 7, 6, 5, 4])
        self.assertEqual(self.store(3, *none_left, (ADD,)), [0, 7, 6, 5, 4, 0])

    def test_refusals(self):
        for wrong in (0, -1, 5, FARTHEST, -FARTHEST):
            for house in (HOUSE, [], [(OPEN, 1)]):
                self.answers(house, (ASK_STORE, wrong), [-1])
        for store in (1, 4):
            self.answers([], (ASK_STORE, store), [-2])
            self.answers([(OPEN, 1)], (ASK_STORE, store), [-5])
        self.answer_all(HOUSE, {(ASK_STORE, 3): [-5], (ASK_STORE, 4): [-5]})
        self.answers(HOUSE + [(STORE, 1, 1, 1, 1)] * 2, (ASK_STORE, 4), [0, 1, 1, 1, 1, 0, 0, 0])


class AskLink(Asking):

    def link(self, number, *calls):
        return last(*HOUSE, *calls, (ASK_LINK, number))

    def test_all_its_numbers(self):
        self.answers(HOUSE, (ASK_LINK, 1), [0, 1, 0, 0, 4, 8, 9, 1, 0, 2, 2, 3, 4])
        self.answers(HOUSE, (ASK_LINK, 2), [0, 1, 2, 1, 3, 2, 7, 0, 0, 0, -5, -6, -7])
        self.answers(HOUSE + [(LINK, 0, 2, 5)], (ASK_LINK, 3), [0, 0, 2, 5] + [0] * 9)

    def test_what_is_set(self):
        self.assertEqual(self.link(2, (ROOM, 2, 1, AMOUNT), (LEAST, 2, 1, AMOUNT), (GAIN_OF, 2, 1, GAIN)),
                         [0, 1, 2, 1, AMOUNT, 2, 7, AMOUNT, 0, 0, GAIN, -6, -7])
        self.assertEqual(self.link(1, (ROOM, 1, 3, 2), (LEAST, 1, 3, 0), (GAIN_OF, 1, 3, -GAIN)),
                         [0, 1, 0, 0, 4, 8, 2, 1, 0, 0, 2, 3, -GAIN])
        self.assertEqual(self.link(1, (ROOM, 2, 1, 9), (LEAST, 2, 1, 8), (GAIN_OF, 2, 1, 7), (INFLOW, 1, 1, 6)), self.link(1))

    def test_a_period_more(self):
        self.assertEqual(self.link(1, (ADD,)), [0, 1, 0, 0, 4, 8, 9, 0, 1, 0, 2, 0, 2, 3, 4, 0])

    def test_steps(self):
        self.assertEqual(self.link(1, (STEP, [1, 3])), [0, 1, 0, 0, 8, 9, 0, 2, 3, 4])
        self.assertEqual(self.link(2, (STEP, [1, 3]), (STEP, [0, 2])), [0, 1, 2, 1, 7, 0, -7])
        none_left = [(STEP, [1, 0]), (STEP, [0, 0]), (STEP, [2, 0])]
        self.assertEqual(self.link(2, *none_left), [0, 1, 2, 1])
        self.assertEqual(self.link(2, *none_left, (ADD,)), [0, 1, 2, 1, 0, 0, 0])
        self.assertEqual(self.link(3, *none_left, (LINK, 2, 0, 3)), [0, 2, 0, 3])
        self.assertEqual(self.link(3, (STEP, [1, 0]), (LINK, 2, 0, 3)), [0, 2, 0, 3, 0, 0, 0, 0, 0, 0])

    def test_refusals(self):
        for wrong in (0, -1, 7, FARTHEST, -FARTHEST):
            for house in (HOUSE, [], [(OPEN, 1)]):
                self.answers(house, (ASK_LINK, wrong), [-1])
        for link in (1, 6):
            self.answers([], (ASK_LINK, link), [-2])
            self.answers([(OPEN, 1)], (ASK_LINK, link), [-6])
        self.answer_all(HOUSE, {(ASK_LINK, 3): [-6], (ASK_LINK, 6): [-6]})
        self.answers(HOUSE + [(LINK, 2, 1, 4)] * 4, (ASK_LINK, 6), [0, 2, 1, 4] + [0] * 9)


class State(Asking):

    def test_at_first(self):
        self.answers([], (STATE,), [-2])
        for periods in range(1, 7):
            self.answers([(OPEN, periods)], (STATE,), [0, periods, 0, 0, 0, 0])
        self.answers([(OPEN, 7)], (STATE,), [-2])

    def test_stores_and_links(self):
        self.answers(HOUSE, (STATE,), [0, 3, 2, 2, 0, 0])
        full = [(OPEN, 2), *[(STORE, 1, 1, 1, 1)] * 5, *[(LINK, 1, 2, 0)] * 7]
        self.answers(full, (STATE,), [0, 2, 4, 6, 0, 0])

    def test_down_to_no_period_and_up_again(self):
        calls = [(STEP, [1, 3]), (STATE,), (STEP, [2, 0]), (STATE,), (STEP, [2, 0]), (STATE,), (STEP, [0, 0]), (STATE,)]
        calls += [(ADD,), (STATE,), (STEP, [0, 0]), (STATE,), *[(ADD,)] * 7, (STATE,)]
        told = [answer for call, answer in zip(HOUSE + calls, ask(*HOUSE, *calls)) if call == (STATE,)]
        self.assertEqual(told, [[0, 2, 2, 2, 1, -13], [0, 1, 2, 2, 2, -7], [0, 0, 2, 2, 3, 1], [0, 0, 2, 2, 3, 1],
                                [0, 1, 2, 2, 3, 1], [0, 0, 2, 2, 4, 1], [0, 6, 2, 2, 4, 1]])

    def test_gained_is_what_the_steps_answered(self):
        house = [(OPEN, 6), (STORE, AMOUNT, 0, 0, 0), *[(LINK, 0, 1, 5)] * 6]
        for link in range(1, 7):
            house += [*rooms(link, [0] + [AMOUNT] * 5), *gains(link, [-GAIN] * 6)]
        told = ask(*house, (STEP, [0] * 6), *[(STEP, [AMOUNT] * 6)] * 5, (STATE,))
        self.assertEqual(told[-7:-1], [[0, 0]] + [[0, -6 * AMOUNT * GAIN]] * 5)
        self.assertEqual(told[-1], [0, 0, 1, 6, 6, -30 * AMOUNT * GAIN])

    def test_many_steps(self):
        self.assertEqual(last((OPEN, 1), *[(STEP, []), (ADD,)] * 99, (STATE,)), [0, 1, 0, 0, 99, 0])


class NothingChanges(Asking):

    def test_refused_calls(self):
        for call in REFUSED:
            told = ask(*HOUSE, call)[-1]
            self.assertEqual(len(told), 1, call)
            self.assertLess(told[0], 0, call)
            self.answers(HOUSE, call, told)

    def test_calls_before_open(self):
        for call in REFUSED + ASKING:
            if call != (OPEN, 2):
                self.assertEqual(ask(call, *HOUSE, *VIEW)[1:], ask(*HOUSE, *VIEW), call)

    def test_calls_that_ask(self):
        for before in (HOUSE, HOUSE + [(STEP, [1, 3]), (ADD,)]):
            for call in ASKING:
                told = last(*before, call)
                self.assertEqual(told[0], 0, call)
                self.answers(before, call, told)
                self.assertEqual(ask(*before, call, call)[-2:], [told, told])

    def test_what_comes_later_is_the_same(self):
        later = [(INFLOW, 1, 1, 1), (STEP, [1, 3]), *VIEW, (ADD,), (ROOM, 1, 3, 9), (STEP, [1, 1]), *VIEW]
        for call in ASKING:
            self.assertEqual(ask(*HOUSE, call, *later)[len(HOUSE) + 1:], ask(*HOUSE, *later)[len(HOUSE):], call)


if __name__ == "__main__":
    unittest.main()
