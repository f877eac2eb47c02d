"""The form of the interface, and what holds of every call."""

import unittest

from lakesandpumps.house import answers
from tests.helper import (ADD, ASK_LINK, ASK_STORE, CHECK, FARTHEST, GAIN_OF, INFLOW, LEAST, LEVELS, LEVELS_BY, LINK, MORE,
                          OPEN, PLAN, ROOM, STATE, STEP, STORE, WIDER, WITHOUT, WORTH, ask, flat, last)

HOUSE = [(OPEN, 2), (STORE, 9, 3, 1, 2), (LINK, 0, 1, 1), (LINK, 1, 0, 0), (ROOM, 1, 1, 4), (ROOM, 2, 2, 5),
         (LEAST, 2, 2, 1), (GAIN_OF, 1, 1, -1), (GAIN_OF, 2, 2, 7), (INFLOW, 1, 2, 2), (ADD,), (PLAN,), (STEP, [4, 0]),
         (PLAN,)]

ASKING = [(LEVELS,), (WORTH,), (MORE, 1, 1, -3), (WIDER, 2, 1, 2), (WITHOUT, 2), (CHECK, [0, 5, 0, 0]),
          (LEVELS_BY, [0, 5, 0, 0]), (ASK_STORE, 1), (ASK_LINK, 2), (STATE,)]

ONE_OF_EACH = [(STORE, 1, 1, 1, 1), (INFLOW, 1, 1, 1), (LINK, 0, 1, 1), (ROOM, 1, 1, 1), (LEAST, 1, 1, 1),
               (GAIN_OF, 1, 1, 1), (ADD,), (STEP, []), (STEP, [1]), (PLAN,), (LEVELS,), (WORTH,), (MORE, 1, 1, 1),
               (WIDER, 1, 1, 1), (WITHOUT, 1), (CHECK, []), (CHECK, [1]), (LEVELS_BY, []), (LEVELS_BY, [1]),
               (ASK_STORE, 1), (ASK_LINK, 1), (STATE,)]

OUT_OF_RANGE = [(STORE, -1, 0, 0, 0), (INFLOW, 0, 1, 1), (LINK, 0, 5, 1), (ROOM, 7, 1, 1), (LEAST, 1, 7, 1),
                (GAIN_OF, 1, 0, 1), (STEP, [-1]), (STEP, [0] * 37), (OPEN, 0), (MORE, 5, 1, 0), (MORE, 1, 1, 10 ** 9 + 1),
                (WIDER, 1, 7, 0), (WIDER, 1, 1, -10 ** 9 - 1), (WITHOUT, 0), (CHECK, [0] * 37), (CHECK, [-1]),
                (LEVELS_BY, [0] * 37), (LEVELS_BY, [10 ** 9 + 1]), (ASK_STORE, 0), (ASK_LINK, 7)]


class Unchanging(list):
    """A list that can't be changed, not for a while either."""

    def refuse(self, *given):
        raise AssertionError("the list was changed")

    append = clear = extend = insert = pop = remove = reverse = sort = refuse
    __setitem__ = __delitem__ = __iadd__ = __imul__ = refuse


class Form(unittest.TestCase):

    def test_each_answer_has_its_count_before_it(self):
        self.assertEqual(answers([0, 2]), [1, 0])
        self.assertEqual(answers([0, 7]), [1, -1])
        self.assertEqual(answers([9]), [1, -2])
        self.assertEqual(answers([0, 1, 1, 5, 2, 0, 3, 3, 1, 0, 0, 9, 8, 1, 0, 9]),
                         [1, 0, 2, 0, 1, 2, 0, 1, 4, 0, 1, 6, 0, 2, 0, 0, 3, 0, 1, 6])

    def test_a_whole_house(self):
        self.assertEqual(answers(flat(HOUSE)), [1, 0] + [2, 0, 1] + [2, 0, 1] + [2, 0, 2] + [1, 0] * 7
                         + [9, 0, 1, 39, 4, 0, 0, 5, 0, 0] + [2, 0, -4] + [7, 0, 1, 43, 0, 5, 0, 0])

    def test_asking_the_whole_house(self):
        self.assertEqual(ask(*HOUSE, *ASKING)[len(HOUSE):], [
            [0, 1, 4, 4], [0, 1, 43], [0, 1, 35 + 2], [0, 1, 49 + 4], [0, 1, 18], [0, 1, 43], [0, 4, 4],
            [0, 9, 3, 1, 2, 6, 0], [0, 1, 0, 0, 5, 0, 1, 0, 7, 0], [0, 2, 1, 2, 1, -4]])

    def test_a_row_is_read_to_its_end(self):
        self.assertEqual(ask((OPEN, 3), (STEP, list(range(36))), (STEP, []), (STEP, [9, 9, 9]), (PLAN,)),
                         [[0], [-7], [0, 0], [-7], [0, 1, 0]])
        self.assertEqual(ask((STEP, [5] * 200), (OPEN, 3), (STEP, [5] * 200), (STEP, []), (PLAN,)),
                         [[-1], [0], [-1], [0, 0], [0, 1, 0]])

    def test_the_list_stays_as_it_was(self):
        calls = flat(HOUSE + ASKING + OUT_OF_RANGE + HOUSE)
        before = list(calls)
        answers(calls)
        self.assertEqual(calls, before)
        self.assertEqual(answers(Unchanging(calls)), answers(calls))

    def test_asking_twice_gives_the_same(self):
        calls = flat(HOUSE + ASKING)
        first = answers(calls)
        kept = list(first)
        answers(flat([(OPEN, 6), (STORE, 5, 5, 5, 5), (STEP, [])]))
        self.assertEqual(answers(calls), kept)
        self.assertEqual(first, kept)

    def test_what_was_given_back_may_be_changed(self):
        calls = flat(HOUSE + ASKING)
        first = answers(calls)
        kept = list(first)
        first.clear()
        self.assertEqual(answers(calls), kept)

    def test_whole_numbers_and_lists_alone(self):
        told = answers(flat(HOUSE + ASKING + OUT_OF_RANGE))
        self.assertIs(type(told), list)
        self.assertEqual({type(number) for number in told}, {int})

    def test_two_hundred_calls(self):
        self.assertEqual(ask((OPEN, 6), *[(PLAN,)] * 199), [[0]] + [[0, 1, 0]] * 199)
        for place in (STEP, CHECK, LEVELS_BY):
            self.assertEqual(ask(*[(place, [10 ** 9] * 72)] * 200), [[-1]] * 200)


class EveryCall(unittest.TestCase):

    def test_not_open(self):
        for call in ONE_OF_EACH:
            self.assertEqual(last(call), [-2], call)

    def test_out_of_range_comes_before_not_open(self):
        for call in OUT_OF_RANGE:
            self.assertEqual(last(call), [-1], call)

    def test_out_of_range_comes_before_all_else(self):
        for call in OUT_OF_RANGE:
            self.assertEqual(last((OPEN, 1), call), [-1], call)
            self.assertEqual(last((OPEN, 1), (STEP, []), call), [-1], call)

    def test_calls_before_open_leave_nothing(self):
        self.assertEqual(ask(*ONE_OF_EACH, *HOUSE)[len(ONE_OF_EACH):], ask(*HOUSE))
        self.assertEqual(ask(*OUT_OF_RANGE, *HOUSE)[len(OUT_OF_RANGE):], ask(*HOUSE))

    def test_each_number_of_each_call_has_two_ends(self):
        ends = {
            OPEN: [(1, 6)],
            STORE: [(0, 10 ** 9), (0, 10 ** 9), (0, 10 ** 9), (-10 ** 6, 10 ** 6)],
            INFLOW: [(1, 4), (1, 6), (0, 10 ** 9)],
            LINK: [(0, 4), (0, 4), (0, 5)],
            ROOM: [(1, 6), (1, 6), (0, 10 ** 9)],
            LEAST: [(1, 6), (1, 6), (0, 10 ** 9)],
            GAIN_OF: [(1, 6), (1, 6), (-10 ** 6, 10 ** 6)],
            MORE: [(1, 4), (1, 6), (-10 ** 9, 10 ** 9)],
            WIDER: [(1, 6), (1, 6), (-10 ** 9, 10 ** 9)],
            WITHOUT: [(1, 6)],
            ASK_STORE: [(1, 4)],
            ASK_LINK: [(1, 6)],
        }
        before = {OPEN: []}
        for place, bounds in ends.items():
            for at, (low, high) in enumerate(bounds):
                for number in (low, high, low - 1, high + 1, -FARTHEST, FARTHEST):
                    numbers = [end[0] for end in bounds]
                    numbers[at] = number
                    told = last(*before.get(place, [(OPEN, 1)]), (place, *numbers))
                    if low <= number <= high:
                        self.assertNotEqual(told, [-1], (place, numbers))
                    else:
                        self.assertEqual(told, [-1], (place, numbers))
                        self.assertEqual(last((place, *numbers)), [-1], (place, numbers))


if __name__ == "__main__":
    unittest.main()
