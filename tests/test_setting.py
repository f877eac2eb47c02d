"""open, store, inflow, link, room, least, gain and add."""

import unittest

from tests.helper import (ADD, AMOUNT, FARTHEST, GAIN, GAIN_OF, INFLOW, LEAST, LINK, OPEN, PLAN, ROOM, STEP, STORE, ask,
                          gains, last, leasts, rooms)

# What shows a house's numbers: its plans, and what it still takes.
PROBES = [(PLAN,), (GAIN_OF, 1, 1, 7), (PLAN,), (GAIN_OF, 1, 1, -7), (PLAN,), (GAIN_OF, 1, 2, 7), (PLAN,),
          (GAIN_OF, 1, 2, -7), (PLAN,), (INFLOW, 4, 1, 0), (ROOM, 6, 1, 0), (STORE, 50, 7, 3, 4), (LINK, 0, 1, 1), (PLAN,),
          (ADD,), (PLAN,), (STEP, []), (STEP, [0]), (STEP, [0, 0]), (STEP, [1, 0]), (STEP, [1, 1, 0]), (STEP, [0] * 6),
          (PLAN,), (ROOM, 1, 1, 5), (LEAST, 1, 1, 2), (GAIN_OF, 1, 1, 2), (INFLOW, 1, 1, 3), (PLAN,), (OPEN, 3), (PLAN,)]

WRONG_AMOUNTS = (-1, AMOUNT + 1, -FARTHEST, FARTHEST)
WRONG_GAINS = (-GAIN - 1, GAIN + 1, -FARTHEST, FARTHEST)


class Refusing(unittest.TestCase):

    def refuses(self, before, call, number):
        """The call answers its number alone, and all is behind it as if it had not been asked."""
        told = ask(*before, call, *PROBES)
        self.assertEqual(told[len(before)], [number], call)
        self.assertEqual(told[len(before) + 1:], ask(*before, *PROBES)[len(before):], call)


class Open(Refusing):

    def test_it_looks_at_so_many_periods(self):
        for periods in range(1, 7):
            told = ask((OPEN, periods), (STORE, 0, 0, 0, 0), (LINK, 0, 1, 0), (PLAN,))
            self.assertEqual(told, [[0], [0, 1], [0, 1], [0, 1, 0] + [0] * periods])

    def test_refusals(self):
        for periods in (0, 7, -1, FARTHEST, -FARTHEST):
            self.refuses([], (OPEN, periods), -1)
            self.refuses([(OPEN, 2)], (OPEN, periods), -1)
        for periods in (1, 2, 6):
            self.refuses([(OPEN, 2)], (OPEN, periods), -3)

    def test_open_with_no_period_left_is_still_open(self):
        self.refuses([(OPEN, 1), (STEP, [])], (OPEN, 4), -3)


class Store(Refusing):

    def test_it_answers_its_number(self):
        self.assertEqual(ask((OPEN, 1), *[(STORE, 1, 1, 0, 0)] * 4)[1:], [[0, 1], [0, 2], [0, 3], [0, 4]])

    def test_what_it_has(self):
        told = ask((OPEN, 1), (STORE, 8, 5, 2, 3), (LINK, 1, 0, 0), (ROOM, 1, 1, 9), (GAIN_OF, 1, 1, 4), (PLAN,))
        self.assertEqual(told[-1], [0, 1, 4 * 3 + 3 * 2, 3])
        told = ask((OPEN, 1), (STORE, 8, 5, 2, 3), (LINK, 0, 1, 0), (ROOM, 1, 1, 9), (PLAN,))
        self.assertEqual(told[-1], [0, 1, 24, 3])

    def test_edges(self):
        for numbers, earns in (((0, 0, 0, 0), 0), ((0, 0, 0, -GAIN), 0), ((AMOUNT, AMOUNT, AMOUNT, GAIN), AMOUNT * GAIN),
                               ((AMOUNT, AMOUNT, 0, -GAIN), -AMOUNT * GAIN), ((AMOUNT, 0, 0, GAIN), 0)):
            self.assertEqual(ask((OPEN, 1), (STORE, *numbers), (PLAN,))[1:], [[0, 1], [0, 1, earns]])

    def test_out_of_range(self):
        for at in range(3):
            for wrong in WRONG_AMOUNTS:
                numbers = [AMOUNT, AMOUNT, AMOUNT, 0]
                numbers[at] = wrong
                self.refuses([(OPEN, 2)], (STORE, *numbers), -1)
        for wrong in WRONG_GAINS:
            self.refuses([(OPEN, 2)], (STORE, 3, 2, 2, wrong), -1)

    def test_above_the_cap(self):
        self.refuses([(OPEN, 2)], (STORE, 4, 5, 0, 0), -7)
        self.refuses([(OPEN, 2)], (STORE, 4, 0, 5, 0), -7)
        self.refuses([(OPEN, 2)], (STORE, 4, 5, 5, 0), -7)
        self.refuses([(OPEN, 2)], (STORE, 0, AMOUNT, 0, 0), -7)

    def test_a_fifth(self):
        four = [(OPEN, 2)] + [(STORE, 4, 4, 4, 1)] * 4
        self.refuses(four, (STORE, 4, 4, 4, 1), -4)
        self.refuses(four, (STORE, 4, 5, 4, 1), -7)
        self.refuses(four, (STORE, 4, 5, 4, GAIN + 1), -1)

    def test_it_may_come_when_periods_have_passed(self):
        told = ask((OPEN, 2), (STEP, []), (STORE, 5, 1, 0, 1), (INFLOW, 1, 1, 2), (INFLOW, 1, 2, 2), (PLAN,))
        self.assertEqual(told[2:], [[0, 1], [0], [-8], [0, 1, 3]])
        self.assertEqual(ask((OPEN, 1), (STEP, []), (STORE, 5, 1, 0, 1), (PLAN,))[2:], [[0, 1], [0, 1, 1]])


class Inflow(Refusing):

    def test_it_comes_in_its_period(self):
        house = [(OPEN, 2), (STORE, 9, 0, 0, 1), (LINK, 1, 0, 0), (ROOM, 1, 1, 9), (GAIN_OF, 1, 1, 2)]
        self.assertEqual(last(*house, (INFLOW, 1, 1, 4), (PLAN,)), [0, 1, 8, 4, 0])
        self.assertEqual(last(*house, (INFLOW, 1, 2, 4), (PLAN,)), [0, 1, 4, 0, 0])

    def test_the_last_one_counts(self):
        house = [(OPEN, 1), (STORE, AMOUNT, 0, 0, 1)]
        self.assertEqual(ask(*house, (INFLOW, 1, 1, AMOUNT), (INFLOW, 1, 1, 3), (PLAN,))[2:], [[0], [0], [0, 1, 3]])
        self.assertEqual(last(*house, (INFLOW, 1, 1, 3), (INFLOW, 1, 1, AMOUNT), (PLAN,)), [0, 1, AMOUNT])
        self.assertEqual(last(*house, (INFLOW, 1, 1, 3), (INFLOW, 1, 1, 0), (PLAN,)), [0, 1, 0])

    def test_it_is_the_store_s_own(self):
        house = [(OPEN, 1), (STORE, 9, 0, 0, 1), (STORE, 9, 0, 0, 10)]
        self.assertEqual(last(*house, (INFLOW, 2, 1, 3), (PLAN,)), [0, 1, 30])

    def test_refusals(self):
        one = [(OPEN, 2), (STORE, 9, 0, 0, 1), (INFLOW, 1, 1, 1)]
        for wrong in WRONG_AMOUNTS:
            self.refuses(one, (INFLOW, 1, 1, wrong), -1)
            self.refuses(one, (INFLOW, 2, 3, wrong), -1)
        for wrong in (0, 5, -1, FARTHEST, -FARTHEST):
            self.refuses(one, (INFLOW, wrong, 1, 1), -1)
        for wrong in (0, 7, -1, FARTHEST, -FARTHEST):
            self.refuses(one, (INFLOW, 1, wrong, 1), -1)
        self.refuses(one, (INFLOW, 2, 1, 5), -5)
        self.refuses(one, (INFLOW, 4, 6, 5), -5)
        self.refuses(one, (INFLOW, 1, 3, 5), -8)
        self.refuses(one, (INFLOW, 1, 6, 5), -8)
        self.refuses(one + [(STEP, []), (STEP, [])], (INFLOW, 1, 1, 5), -8)


class Link(Refusing):

    TWO = [(OPEN, 2), (STORE, 9, 1, 0, 1), (STORE, 9, 2, 0, 2)]

    def test_it_answers_its_number(self):
        told = ask(*self.TWO, (LINK, 0, 1, 0), (LINK, 1, 0, 5), (LINK, 1, 2, 1), (LINK, 2, 1, 2), (LINK, 2, 0, 0),
                   (LINK, 0, 2, 4))
        self.assertEqual(told[3:], [[0, number] for number in range(1, 7)])

    def test_all_its_numbers_are_0(self):
        self.assertEqual(last(*self.TWO, (LINK, 1, 2, 0), (PLAN,)), [0, 1, 5, 0, 0])

    def test_source_goal_and_delay(self):
        def plan(*link):
            return last(*self.TWO, (LINK, *link), *rooms(1, [1, 1]), *leasts(1, [1, 0]), *gains(1, [100, -100]), (PLAN,))
        self.assertEqual(plan(0, 1, 0), [0, 1, 106, 1, 0])
        self.assertEqual(plan(0, 2, 0), [0, 1, 107, 1, 0])
        self.assertEqual(plan(1, 0, 0), [0, 1, 104, 1, 0])
        self.assertEqual(plan(1, 2, 0), [0, 1, 106, 1, 0])
        self.assertEqual(plan(1, 2, 1), [0, 1, 106, 1, 0])
        self.assertEqual(plan(1, 2, 2), [0, 1, 104, 1, 0])
        self.assertEqual(plan(2, 1, 0), [0, 1, 104, 1, 0])
        self.assertEqual(plan(2, 1, 5), [0, 1, 103, 1, 0])

    def test_out_of_range(self):
        for wrong in (-1, 5, FARTHEST, -FARTHEST):
            self.refuses(self.TWO, (LINK, wrong, 1, 0), -1)
            self.refuses(self.TWO, (LINK, 1, wrong, 0), -1)
        for wrong in (-1, 6, FARTHEST, -FARTHEST):
            self.refuses(self.TWO, (LINK, 1, 2, wrong), -1)
            self.refuses(self.TWO, (LINK, 3, 3, wrong), -1)

    def test_the_same_or_not_there(self):
        for source, goal in ((0, 0), (1, 1), (2, 2), (3, 3), (4, 4), (3, 1), (1, 3), (4, 0), (0, 4), (3, 4)):
            self.refuses(self.TWO, (LINK, source, goal, 0), -7)
        self.refuses([(OPEN, 1)], (LINK, 0, 1, 0), -7)

    def test_a_seventh(self):
        six = self.TWO + [(LINK, 1, 2, 0)] * 6
        self.refuses(six, (LINK, 1, 2, 0), -4)
        self.refuses(six, (LINK, 1, 1, 0), -7)
        self.refuses(six, (LINK, 0, 3, 0), -7)
        self.refuses(six, (LINK, 1, 1, 6), -1)


class LinkNumbers(Refusing):

    ONE = [(OPEN, 2), (STORE, AMOUNT, AMOUNT, 0, 0), (LINK, 1, 0, 0), (ROOM, 1, 1, 5), (LEAST, 1, 1, 3), (ROOM, 1, 2, 4)]

    def test_room(self):
        house = self.ONE + gains(1, [1, 1])
        self.assertEqual(last(*house, (PLAN,)), [0, 1, 9, 5, 4])
        self.assertEqual(ask(*house, (ROOM, 1, 1, 3), (PLAN,))[-2:], [[0], [0, 1, 7, 3, 4]])
        self.assertEqual(ask(*house, (ROOM, 1, 2, 0), (PLAN,))[-2:], [[0], [0, 1, 5, 5, 0]])
        self.assertEqual(last(*house, (ROOM, 1, 2, AMOUNT - 5), (PLAN,)), [0, 1, AMOUNT, 5, AMOUNT - 5])
        self.assertEqual(ask(*house, (ROOM, 1, 1, AMOUNT), (PLAN,))[-2:], [[0], [0, 1, AMOUNT, AMOUNT - 4, 4]])

    def test_least(self):
        house = self.ONE + gains(1, [-1, -1])
        self.assertEqual(last(*house, (PLAN,)), [0, 1, -3, 3, 0])
        self.assertEqual(ask(*house, (LEAST, 1, 1, 5), (PLAN,))[-2:], [[0], [0, 1, -5, 5, 0]])
        self.assertEqual(ask(*house, (LEAST, 1, 1, 0), (PLAN,))[-2:], [[0], [0, 1, 0, 0, 0]])
        self.assertEqual(ask(*house, (ROOM, 1, 2, AMOUNT), (LEAST, 1, 1, 0), (LEAST, 1, 2, AMOUNT), (PLAN,))[-2:],
                         [[0], [0, 1, -AMOUNT, 0, AMOUNT]])

    def test_gain(self):
        self.assertEqual(ask(*self.ONE, (GAIN_OF, 1, 1, GAIN), (PLAN,))[-2:], [[0], [0, 1, 5 * GAIN, 5, 0]])
        self.assertEqual(ask(*self.ONE, (GAIN_OF, 1, 1, -GAIN), (PLAN,))[-2:], [[0], [0, 1, -3 * GAIN, 3, 0]])
        self.assertEqual(last(*self.ONE, (GAIN_OF, 1, 2, 2), (GAIN_OF, 1, 2, 0), (PLAN,)), [0, 1, 0, 3, 0])

    def test_each_link_has_its_own(self):
        house = [(OPEN, 1), (STORE, 9, 9, 0, 0), (LINK, 1, 0, 0), (LINK, 1, 0, 0), (ROOM, 2, 1, 5), (LEAST, 2, 1, 1)]
        self.assertEqual(last(*house, (GAIN_OF, 1, 1, 9), (PLAN,)), [0, 1, 0, 0, 1])
        self.assertEqual(last(*house, (GAIN_OF, 2, 1, 9), (PLAN,)), [0, 1, 45, 0, 5])

    def test_out_of_range(self):
        for place in (ROOM, LEAST, GAIN_OF):
            for wrong in (0, 7, -1, FARTHEST, -FARTHEST):
                self.refuses(self.ONE, (place, wrong, 1, 4), -1)
                self.refuses(self.ONE, (place, 1, wrong, 4), -1)
            for wrong in (WRONG_GAINS if place == GAIN_OF else WRONG_AMOUNTS):
                self.refuses(self.ONE, (place, 1, 1, wrong), -1)
                self.refuses(self.ONE, (place, 2, 3, wrong), -1)

    def test_no_such_link_or_period(self):
        for place in (ROOM, LEAST, GAIN_OF):
            self.refuses(self.ONE, (place, 2, 1, 4), -6)
            self.refuses(self.ONE, (place, 6, 6, 4), -6)
            self.refuses(self.ONE, (place, 1, 3, 4), -8)
            self.refuses(self.ONE, (place, 1, 6, 0), -8)
            self.refuses(self.ONE + [(STEP, [3]), (STEP, [0])], (place, 1, 1, 0), -8)

    def test_room_below_least(self):
        for amount in (0, 2):
            self.refuses(self.ONE, (ROOM, 1, 1, amount), -7)
        self.assertEqual(last(*self.ONE, (ROOM, 1, 1, 3)), [0])
        self.assertEqual(last(*self.ONE, (ROOM, 1, 2, 2)), [0])

    def test_least_above_room(self):
        for amount in (6, AMOUNT):
            self.refuses(self.ONE, (LEAST, 1, 1, amount), -7)
        self.refuses(self.ONE, (LEAST, 1, 2, 5), -7)
        self.assertEqual(last(*self.ONE, (LEAST, 1, 2, 4)), [0])

    def test_a_new_link_has_no_room_for_a_least(self):
        self.refuses([(OPEN, 1), (STORE, 1, 1, 1, 1), (LINK, 0, 1, 0)], (LEAST, 1, 1, 1), -7)


class Add(Refusing):

    def test_a_period_more(self):
        told = ask((OPEN, 1), (STORE, 9, 5, 0, 1), (LINK, 1, 0, 0), (ROOM, 1, 2, 1), (ADD,), (ROOM, 1, 2, 1), (PLAN,))
        self.assertEqual(told[3:], [[-8], [0], [0], [0, 1, 5, 0, 0]])

    def test_all_its_numbers_are_0(self):
        house = [(OPEN, 1), (STORE, 9, 0, 0, 1), (LINK, 1, 0, 0), (ROOM, 1, 1, 5), (LEAST, 1, 1, 1), (GAIN_OF, 1, 1, 2),
                 (INFLOW, 1, 1, 3)]
        self.assertEqual(last(*house, (PLAN,)), [0, 1, 6, 3])
        self.assertEqual(last(*house, (ADD,), (PLAN,)), [0, 1, 6, 3, 0])
        self.assertEqual(last(*house, (ADD,), (ROOM, 1, 2, 5), (PLAN,)), [0, 1, 6, 3, 0])
        self.assertEqual(last(*house, (ADD,), (GAIN_OF, 1, 2, 5), (PLAN,)), [0, 1, 6, 3, 0])

    def test_what_comes_later_may_come_now(self):
        house = [(OPEN, 1), (STORE, 9, 0, 0, 1), (LINK, 0, 1, 1), (ROOM, 1, 1, 5)]
        self.assertEqual(last(*house, (PLAN,)), [0, 1, 0, 0])
        self.assertEqual(last(*house, (ADD,), (PLAN,)), [0, 1, 5, 5, 0])

    def test_refusals(self):
        self.refuses([(OPEN, 6)], (ADD,), -4)
        self.assertEqual(ask((OPEN, 1), *[(ADD,)] * 7)[1:], [[0]] * 5 + [[-4]] * 2)
        self.assertEqual(ask((OPEN, 6), (STEP, []), (ADD,), (ADD,))[1:], [[0, 0], [0], [-4]])
        self.assertEqual(ask((OPEN, 1), (STEP, []), *[(ADD,)] * 7)[2:], [[0]] * 6 + [[-4]])


if __name__ == "__main__":
    unittest.main()
