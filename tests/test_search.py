"""The calls against a second reading of the document; plans against a search through all schedules."""

import random
import unittest

from tests.helper import (ADD, AMOUNT, FARTHEST, GAIN_OF, INFLOW, LEAST, LINK, OPEN, PLAN, ROOM, STEP, STORE, Model,
                          ask, last)

FAR = (-FARTHEST, -AMOUNT - 1, -1, 7, AMOUNT + 1, FARTHEST)


def small_house(rng, unit=1, gain_unit=1):
    """The calls that make a house with few schedules, its amounts a multiple of unit."""
    periods = rng.randint(1, 3)
    stores = rng.randint(1, 3)
    links = rng.randint(1, 3)
    calls = [(OPEN, periods)]
    for number in range(stores):
        cap = rng.randint(0, 5)
        calls.append((STORE, cap * unit, rng.randint(0, cap) * unit, max(0, rng.randint(-cap - 2, cap)) * unit,
                      rng.randint(-2, 2) * gain_unit))
    for number in range(1, stores + 1):
        for period in range(1, periods + 1):
            calls.append((INFLOW, number, period, rng.choice((0, 0, 0, 1, 2)) * unit))
    left = 2500
    for number in range(1, links + 1):
        source, goal = rng.sample(range(stores + 1), 2)
        calls.append((LINK, source, goal, rng.choice((0, 0, 0, 1, 1, 2, 5))))
        for period in range(1, periods + 1):
            room = rng.randint(0, 4)
            least = rng.choice((0, 0, 0, rng.randint(0, room)))
            if left // (room - least + 1) < 1:
                room = least
            left //= room - least + 1
            calls.append((ROOM, number, period, room * unit))
            calls.append((LEAST, number, period, least * unit))
            calls.append((GAIN_OF, number, period, rng.randint(-2, 2) * gain_unit))
    return calls


def scaled(answer, unit, gain_unit):
    if answer == [0, 0]:
        return answer
    return [0, 1, answer[2] * unit * gain_unit] + [amount * unit for amount in answer[3:]]


class PlansAgainstSearch(unittest.TestCase):

    def test_small_houses(self):
        rng = random.Random(1)
        found = {0: 0, 1: 0}
        for turn in range(700):
            calls = small_house(rng)
            model = Model()
            for call in calls:
                self.assertEqual(model.call(*call)[0], 0)
            told = last(*calls, (PLAN,))
            self.assertEqual(told, model.do_plan(), calls)
            found[told[1]] += 1
        self.assertGreater(min(found.values()), 100)

    def test_small_houses_with_great_amounts(self):
        rng = random.Random(2)
        for turn in range(300):
            unit, gain_unit = rng.choice(((199999999, 499999), (200000000, 500000), (7, 100000), (10 ** 8, 1)))
            seed = rng.randint(0, 10 ** 9)
            model = Model()
            for call in small_house(random.Random(seed)):
                model.call(*call)
            calls = small_house(random.Random(seed), unit, gain_unit)
            told = ask(*calls, (PLAN,))
            self.assertEqual({answer[0] for answer in told}, {0}, calls)
            self.assertEqual(told[-1], scaled(model.do_plan(), unit, gain_unit), calls)


def any_call(rng, model):
    """A call of any kind, mostly one that is accepted."""
    place = rng.choice((OPEN, STORE, INFLOW, INFLOW, LINK, LINK, ROOM, ROOM, ROOM, LEAST, LEAST, GAIN_OF, GAIN_OF, ADD,
                        ADD, STEP, STEP, PLAN, PLAN))
    stores, links = max(1, len(model.stores)), max(1, len(model.links))
    looked_at = 3 if model.first is None else max(1, model.behind - model.first)

    def number(low, high):
        return rng.choice(FAR) if rng.random() < 0.01 else rng.randint(low, high)

    def sent():
        return [rng.randint(model.least.get((link, model.first), 0), model.room.get((link, model.first), 0))
                if model.first is not None else 0 for link in range(1, len(model.links) + 1)]

    if place == STEP:
        row = sent()
        if rng.random() < 0.1:
            row.append(rng.choice((0, 1, -1, AMOUNT + 1)))
        if row and rng.random() < 0.1:
            row[rng.randrange(len(row))] = rng.choice((0, 1, 2, 3, -1, FARTHEST))
        return STEP, row
    period = number(1, min(6, looked_at + (rng.random() < 0.1)))
    link = number(1, min(6, links + (rng.random() < 0.1)))
    return {
        OPEN: (OPEN, number(1, 3)),
        STORE: (STORE, number(1, 5), number(0, 2), max(0, number(-6, 3)), number(-2, 2)),
        INFLOW: (INFLOW, number(1, min(4, stores + 1)), period, number(0, 2)),
        LINK: (LINK, number(0, stores), number(0, stores), number(0, 3)),
        ROOM: (ROOM, link, period, number(0, 3)),
        LEAST: (LEAST, link, period, number(0, 2)),
        GAIN_OF: (GAIN_OF, link, period, number(-2, 2)),
        ADD: (ADD,),
        PLAN: (PLAN,),
    }[place]


class CallsAgainstModel(unittest.TestCase):

    def test_any_calls_in_any_order(self):
        rng = random.Random(3)
        seen = {}
        for turn in range(300):
            model = Model()
            calls, asked_for = [], []
            for many in range(120):
                call = (OPEN, rng.randint(1, 6)) if many == 5 else any_call(rng, model)
                if call[0] == PLAN and model.first is not None and model.choices() > 400:
                    continue
                calls.append(call)
                asked_for.append(model.call(*call))
                key = (call[0], min(0, asked_for[-1][0]))
                seen[key] = seen.get(key, 0) + 1
            self.assertEqual(ask(*calls), asked_for, calls)
        for key in ((OPEN, -1), (OPEN, -3), (STORE, -7), (STORE, -4), (INFLOW, -5), (INFLOW, -8), (LINK, -7),
                    (LINK, -4), (ROOM, -6), (ROOM, -8), (ROOM, -7), (LEAST, -7), (GAIN_OF, -8), (STEP, -1),
                    (STEP, -2), (STEP, -7), (STEP, -8), (STEP, 0), (PLAN, -2), (PLAN, 0)):
            self.assertGreater(seen.get(key, 0), 5, key)


if __name__ == "__main__":
    unittest.main()
