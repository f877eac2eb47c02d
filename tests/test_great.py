"""The greatest houses: plans that nothing betters, and fast enough to be asked for again and again."""

import random
import time
import unittest

from tests.helper import (AMOUNT, ASK_LINK, CHECK, GAIN, GAIN_OF, INFLOW, LEAST, LEVELS, LEVELS_BY, LINK, MORE, OPEN, PLAN,
                          ROOM, STEP, STORE, WIDER, WITHOUT, WORTH, ask, gains, last, model_of, rooms)


def any_amount(rng):
    return rng.choice((0, 1, AMOUNT, rng.randint(0, 10), rng.randint(0, AMOUNT), rng.randint(0, AMOUNT)))


def any_gain(rng, widest):
    return rng.choice((0, widest, -widest, rng.randint(-widest, widest), rng.randint(-widest, widest)))


def great_house(rng, ways_out, links=6):
    """The calls for 6 periods, 4 stores and some links, the last ones wide enough to empty so many stores."""
    widest = rng.choice((1, 2, 10, GAIN))
    calls = [(OPEN, 6)]
    for store in range(1, 5):
        cap = rng.choice((AMOUNT, any_amount(rng)))
        calls.append((STORE, cap, rng.randint(0, cap), rng.choice((0, 0, 0, rng.randint(0, cap))), any_gain(rng, widest)))
        calls += [(INFLOW, store, period, any_amount(rng) // 4) for period in range(1, 7)]
    for link in range(1, links + 1):
        source, goal = (link - links + ways_out, 0) if link > links - ways_out else rng.sample(range(5), 2)
        calls.append((LINK, source, goal, rng.choice((0, 0, 0, 1, 2, 3, 5))))
        for period in range(1, 7):
            room = AMOUNT if goal == 0 and link > links - ways_out else any_amount(rng)
            calls.append((ROOM, link, period, room))
            calls.append((GAIN_OF, link, period, any_gain(rng, widest)))
            if rng.random() < 0.1:
                calls.append((LEAST, link, period, rng.randint(0, room) // 8))
    return calls


class Holding(unittest.TestCase):

    def holds(self, calls, told):
        """The answer is a plan that no round of changes betters, or none can be let."""
        model = model_of(calls)
        if told == [0, 0]:
            self.assertFalse(model.can_be_let(), calls)
            return 0
        sent = dict(zip(model.keys(), told[3:], strict=True))
        self.assertTrue(model.is_let(sent), calls)
        self.assertEqual(told[:3], [0, 1, model.earns(sent)], calls)
        self.assertFalse(model.has_better(sent), calls)
        return 1


class Great(Holding):

    def test_great_houses(self):
        rng = random.Random(4)
        plans = 0
        for turn in range(160):
            calls = great_house(rng, rng.choice((2, 3, 4, 4)))
            plans += self.holds(calls, last(*calls, (PLAN,)))
        self.assertGreater(plans, 40)
        self.assertLess(plans, 140)

    def test_great_houses_as_periods_pass(self):
        rng = random.Random(5)
        steps = 0
        for turn in range(25):
            calls = great_house(rng, 4)
            for period in range(6):
                told = last(*calls, (PLAN,))
                self.holds(calls, told)
                if told == [0, 0]:
                    break
                calls.append((STEP, told[3:9]))
                self.assertEqual(last(*calls)[0], 0)
                steps += 1
        self.assertGreater(steps, 30)

    def test_the_greatest_numbers(self):
        house = [(OPEN, 6)]
        for store in range(4):
            house.append((STORE, AMOUNT, AMOUNT, 0, GAIN))
        for link in range(1, 7):
            source, goal = ((1, 2), (2, 1), (3, 4), (4, 3), (1, 3), (3, 1))[link - 1]
            house += [(LINK, source, goal, 0), *rooms(link, [AMOUNT] * 6), *gains(link, [GAIN] * 6)]
        self.assertEqual(last(*house, (PLAN,)), [0, 1, 40 * AMOUNT * GAIN] + [AMOUNT] * 36)
        self.assertEqual(ask(*house, (LEVELS,), (WORTH,))[-2:], [[0, 1] + [AMOUNT] * 24, [0, 1, 40 * AMOUNT * GAIN]])
        self.assertEqual(ask(*house, (MORE, 4, 6, 1), (MORE, 4, 6, -AMOUNT), (WITHOUT, 2))[-3:],
                         [[0, 0], [0, 1, 39 * AMOUNT * GAIN], [0, 1, 28 * AMOUNT * GAIN]])
        below = [(GAIN_OF, link, period, -GAIN) for link in range(1, 7) for period in range(1, 7)]
        self.assertEqual(last(*house, *below, (PLAN,)), [0, 1, 4 * AMOUNT * GAIN] + [0] * 36)
        must = [(LEAST, link, period, AMOUNT) for link in range(1, 7) for period in range(1, 7)]
        self.assertEqual(last(*house, *must, (PLAN,)), [0, 1, 40 * AMOUNT * GAIN] + [AMOUNT] * 36)

    def test_two_hundred_calls_of_one_house(self):
        rng = random.Random(6)
        for turn in range(4):
            calls = [call for call in great_house(rng, 4) if call[0] != LEAST]
            start = time.monotonic()
            told = ask(*calls, *[(PLAN,)] * (200 - len(calls)))
            self.assertLess(time.monotonic() - start, 20)
            self.assertEqual(len(told), 200)
            self.assertEqual(told[len(calls):], [told[-1]] * (200 - len(calls)))
            self.holds(calls, told[-1])

    def test_changes_and_plans_in_turn(self):
        rng = random.Random(7)
        calls = [call for call in great_house(rng, 4) if call[0] != LEAST]
        for turn in range((200 - len(calls)) // 2):
            calls += [(GAIN_OF, rng.randint(1, 6), rng.randint(1, 6), rng.randint(-GAIN, GAIN)), (PLAN,)]
        start = time.monotonic()
        told = ask(*calls)
        self.assertLess(time.monotonic() - start, 20)
        for place in range(len(calls) - 20, len(calls)):
            if calls[place] == (PLAN,):
                self.holds(calls[:place], told[place])

    def test_asking_again_and_again(self):
        rng = random.Random(10)
        plans = 0
        for turn in range(4):
            calls = [call for call in great_house(rng, 4) if call[0] != LEAST]
            many = len(calls)
            for place in range(200 - many):
                asked = (PLAN, LEVELS, WORTH, MORE, WIDER, WITHOUT)[place % 6]
                given = {MORE: (rng.randint(1, 4), rng.randint(1, 6), rng.randint(-AMOUNT, AMOUNT) // 8),
                         WIDER: (rng.randint(1, 6), rng.randint(1, 6), rng.randint(-AMOUNT, AMOUNT)),
                         WITHOUT: (rng.randint(1, 6),)}.get(asked, ())
                calls.append((asked, *given))
            start = time.monotonic()
            told = ask(*calls)
            self.assertLess(time.monotonic() - start, 20)
            plan = told[many]
            plans += self.holds(calls[:many], plan)
            levels = ask(*calls[:many], (LEVELS_BY, plan[3:]))[-1] if plan[1] else [0]
            for call, answer in zip(calls[many:], told[many:]):
                self.assertEqual(answer, {PLAN: plan, LEVELS: [0, plan[1], *levels[1:]], WORTH: plan[:3]}.get(call[0], answer))
        self.assertGreater(plans, 0)


def widened(calls, link, period, number):
    """The calls for a house like this one, but with that link's room so much greater; None if it's below least."""
    source, goal, delay, *numbers = last(*calls, (ASK_LINK, link))[1:]
    room, least, gain = numbers[period - 1::6]
    if room + number < least:
        return None
    if room + number <= AMOUNT:
        return calls + [(ROOM, link, period, room + number)]
    return calls + [(LINK, source, goal, delay), (ROOM, 6, period, number), (GAIN_OF, 6, period, gain)]


class Supposing(Holding):
    """more, wider and without of great houses, against houses in which it is so."""

    def is_worth(self, calls, call, changed):
        """The call answers what the plan of the changed house earns; whether there's one."""
        told = last(*calls, call)
        plan = last(*changed, (PLAN,)) if changed is not None else [0, 0]
        self.assertEqual(told, plan[:3], (calls, call))
        return self.holds(changed, plan) if changed is not None else 0

    def test_more(self):
        rng = random.Random(11)
        plans = {-1: 0, 1: 0}
        for turn in range(60):
            calls = great_house(rng, rng.choice((3, 4, 4)), 5)
            store, period = rng.randint(1, 4), rng.randint(1, 6)
            sign = rng.choice((-1, 1))
            amount = rng.choice((any_amount(rng), any_amount(rng) // 8))
            ends = (0, store) if sign > 0 else (store, 0)
            changed = calls + [(LINK, *ends, 0), (ROOM, 6, period, amount), (LEAST, 6, period, amount)]
            plans[sign] += self.is_worth(calls, (MORE, store, period, sign * amount), changed)
        self.assertGreater(min(plans.values()), 5)

    def test_wider(self):
        rng = random.Random(12)
        plans = {-1: 0, 1: 0}
        for turn in range(60):
            calls = great_house(rng, rng.choice((3, 4, 4)), 5)
            link, period = rng.randint(1, 5), rng.randint(1, 6)
            sign = rng.choice((-1, 1))
            number = sign * any_amount(rng)
            plans[sign] += self.is_worth(calls, (WIDER, link, period, number), widened(calls, link, period, number))
        self.assertGreater(min(plans.values()), 5)

    def test_without(self):
        rng = random.Random(13)
        plans = 0
        for turn in range(40):
            calls = great_house(rng, rng.choice((3, 4, 4)))
            link = rng.randint(1, 6)
            changed = calls + [(place, link, period, 0) for place in (LEAST, ROOM) for period in range(1, 7)]
            plans += self.is_worth(calls, (WITHOUT, link), changed)
        self.assertGreater(plans, 5)
        self.assertLess(plans, 35)

    def test_levels_and_worth(self):
        rng = random.Random(14)
        plans = 0
        for turn in range(60):
            calls = great_house(rng, 4)
            plan, levels, worth = ask(*calls, (PLAN,), (LEVELS,), (WORTH,))[-3:]
            self.assertEqual(worth, plan[:3])
            if plan[1] == 0:
                self.assertEqual(levels, [0, 0])
                continue
            plans += 1
            told = ask(*calls, (CHECK, plan[3:]), (LEVELS_BY, plan[3:]))[-2:]
            self.assertEqual(told, [plan[:3], [0] + levels[2:]], calls)
            self.assertEqual(levels[2:], model_of(calls).do_levels_by(plan[3:])[1:], calls)
        self.assertGreater(plans, 20)


if __name__ == "__main__":
    unittest.main()
