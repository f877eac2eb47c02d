"""The greatest houses: plans that nothing betters, and fast enough to be asked for again and again."""

import random
import time
import unittest

from tests.helper import (AMOUNT, GAIN, GAIN_OF, INFLOW, LEAST, LINK, OPEN, PLAN, ROOM, STEP, STORE, ask, gains, last,
                          model_of, rooms)


def any_amount(rng):
    return rng.choice((0, 1, AMOUNT, rng.randint(0, 10), rng.randint(0, AMOUNT), rng.randint(0, AMOUNT)))


def any_gain(rng, widest):
    return rng.choice((0, widest, -widest, rng.randint(-widest, widest), rng.randint(-widest, widest)))


def great_house(rng, ways_out):
    """The calls for 6 periods, 4 stores and 6 links, the last ones wide enough to empty so many stores."""
    widest = rng.choice((1, 2, 10, GAIN))
    calls = [(OPEN, 6)]
    for store in range(1, 5):
        cap = rng.choice((AMOUNT, any_amount(rng)))
        calls.append((STORE, cap, rng.randint(0, cap), rng.choice((0, 0, 0, rng.randint(0, cap))), any_gain(rng, widest)))
        calls += [(INFLOW, store, period, any_amount(rng) // 4) for period in range(1, 7)]
    for link in range(1, 7):
        source, goal = (link - 6 + ways_out, 0) if link > 6 - ways_out else rng.sample(range(5), 2)
        calls.append((LINK, source, goal, rng.choice((0, 0, 0, 1, 2, 3, 5))))
        for period in range(1, 7):
            room = AMOUNT if goal == 0 and link > 6 - ways_out else any_amount(rng)
            calls.append((ROOM, link, period, room))
            calls.append((GAIN_OF, link, period, any_gain(rng, widest)))
            if rng.random() < 0.1:
                calls.append((LEAST, link, period, rng.randint(0, room) // 8))
    return calls


class Great(unittest.TestCase):

    def holds(self, calls, told):
        """The answer is a plan that no round of changes betters, or none can be let."""
        model = model_of(calls)
        if told == [0, 0]:
            self.assertFalse(model.can_be_let(), calls)
            return 0
        sent = dict(zip(model.keys(), told[3:], strict=True))
        self.assertTrue(model.is_let(sent), calls)
        self.assertEqual(told[:3], [0, 1, model.earns(sent)], calls)
        self.assertFalse(model.has_better(sent), calls)
        return 1

    def test_great_houses(self):
        rng = random.Random(4)
        plans = 0
        for turn in range(160):
            calls = great_house(rng, rng.choice((2, 3, 4, 4)))
            plans += self.holds(calls, last(*calls, (PLAN,)))
        self.assertGreater(plans, 40)
        self.assertLess(plans, 140)

    def test_great_houses_as_periods_pass(self):
        rng = random.Random(5)
        steps = 0
        for turn in range(25):
            calls = great_house(rng, 4)
            for period in range(6):
                told = last(*calls, (PLAN,))
                self.holds(calls, told)
                if told == [0, 0]:
                    break
                calls.append((STEP, told[3:9]))
                self.assertEqual(last(*calls)[0], 0)
                steps += 1
        self.assertGreater(steps, 30)

    def test_the_greatest_numbers(self):
        house = [(OPEN, 6)]
        for store in range(4):
            house.append((STORE, AMOUNT, AMOUNT, 0, GAIN))
        for link in range(1, 7):
            source, goal = ((1, 2), (2, 1), (3, 4), (4, 3), (1, 3), (3, 1))[link - 1]
            house += [(LINK, source, goal, 0), *rooms(link, [AMOUNT] * 6), *gains(link, [GAIN] * 6)]
        self.assertEqual(last(*house, (PLAN,)), [0, 1, 40 * AMOUNT * GAIN] + [AMOUNT] * 36)
        below = [(GAIN_OF, link, period, -GAIN) for link in range(1, 7) for period in range(1, 7)]
        self.assertEqual(last(*house, *below, (PLAN,)), [0, 1, 4 * AMOUNT * GAIN] + [0] * 36)
        must = [(LEAST, link, period, AMOUNT) for link in range(1, 7) for period in range(1, 7)]
        self.assertEqual(last(*house, *must, (PLAN,)), [0, 1, 40 * AMOUNT * GAIN] + [AMOUNT] * 36)

    def test_two_hundred_calls_of_one_house(self):
        rng = random.Random(6)
        for turn in range(4):
            calls = [call for call in great_house(rng, 4) if call[0] != LEAST]
            start = time.monotonic()
            told = ask(*calls, *[(PLAN,)] * (200 - len(calls)))
            self.assertLess(time.monotonic() - start, 20)
            self.assertEqual(len(told), 200)
            self.assertEqual(told[len(calls):], [told[-1]] * (200 - len(calls)))
            self.holds(calls, told[-1])

    def test_changes_and_plans_in_turn(self):
        rng = random.Random(7)
        calls = [call for call in great_house(rng, 4) if call[0] != LEAST]
        for turn in range((200 - len(calls)) // 2):
            calls += [(GAIN_OF, rng.randint(1, 6), rng.randint(1, 6), rng.randint(-GAIN, GAIN)), (PLAN,)]
        start = time.monotonic()
        told = ask(*calls)
        self.assertLess(time.monotonic() - start, 20)
        for place in range(len(calls) - 20, len(calls)):
            if calls[place] == (PLAN,):
                self.holds(calls[:place], told[place])


if __name__ == "__main__":
    unittest.main()
