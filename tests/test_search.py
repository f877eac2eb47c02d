"""The calls against a second reading of the document; plans against a search through all schedules."""

import random
import unittest

from tests.helper import (ADD, AMOUNT, ASK_LINK, ASK_STORE, CHECK, FARTHEST, GAIN_OF, INFLOW, LEAST, LEVELS, LEVELS_BY,
                          LINK, MORE, OPEN, PLAN, ROOM, STATE, STEP, STORE, WIDER, WITHOUT, WORTH, Model, ask, last)

FAR = (-FARTHEST, -AMOUNT - 1, -1, 7, AMOUNT + 1, FARTHEST)


def small_house(rng, unit=1, gain_unit=1):
    """The calls that make a house with few schedules, its amounts a multiple of unit."""
    periods = rng.randint(1, 3)
    stores = rng.randint(1, 3)
    links = rng.randint(1, 3)
    calls = [(OPEN, periods)]
    for number in range(stores):
        cap = rng.randint(0, 5)
        calls.append((STORE, cap * unit, rng.randint(0, cap) * unit, max(0, rng.randint(-cap - 2, cap)) * unit,
                      rng.randint(-2, 2) * gain_unit))
    for number in range(1, stores + 1):
        for period in range(1, periods + 1):
            calls.append((INFLOW, number, period, rng.choice((0, 0, 0, 1, 2)) * unit))
    left = 2500
    for number in range(1, links + 1):
        source, goal = rng.sample(range(stores + 1), 2)
        calls.append((LINK, source, goal, rng.choice((0, 0, 0, 1, 1, 2, 5))))
        for period in range(1, periods + 1):
            room = rng.randint(0, 4)
            least = rng.choice((0, 0, 0, rng.randint(0, room)))
            if left // (room - least + 1) < 1:
                room = least
            left //= room - least + 1
            calls.append((ROOM, number, period, room * unit))
            calls.append((LEAST, number, period, least * unit))
            calls.append((GAIN_OF, number, period, rng.randint(-2, 2) * gain_unit))
    return calls


def scaled(answer, unit, gain_unit):
    if answer == [0, 0]:
        return answer
    return [0, 1, answer[2] * unit * gain_unit] + [amount * unit for amount in answer[3:]]


class PlansAgainstSearch(unittest.TestCase):

    def test_small_houses(self):
        rng = random.Random(1)
        found = {0: 0, 1: 0}
        for turn in range(700):
            calls = small_house(rng)
            model = Model()
            for call in calls:
                self.assertEqual(model.call(*call)[0], 0)
            told = last(*calls, (PLAN,))
            self.assertEqual(told, model.do_plan(), calls)
            found[told[1]] += 1
        self.assertGreater(min(found.values()), 100)

    def test_small_houses_with_great_amounts(self):
        rng = random.Random(2)
        for turn in range(300):
            unit, gain_unit = rng.choice(((199999999, 499999), (200000000, 500000), (7, 100000), (10 ** 8, 1)))
            seed = rng.randint(0, 10 ** 9)
            model = Model()
            for call in small_house(random.Random(seed)):
                model.call(*call)
            calls = small_house(random.Random(seed), unit, gain_unit)
            told = ask(*calls, (PLAN,))
            self.assertEqual({answer[0] for answer in told}, {0}, calls)
            self.assertEqual(told[-1], scaled(model.do_plan(), unit, gain_unit), calls)


class SupposingAgainstSearch(unittest.TestCase):
    """levels, worth, more, wider and without of small houses."""

    def test_small_houses(self):
        rng = random.Random(8)
        found = {}
        for turn in range(300):
            calls = small_house(rng)
            model = Model()
            for call in calls:
                model.call(*call)
            asked = [(LEVELS,), (WORTH,), *[(WITHOUT, link) for link in range(1, len(model.links) + 1)]]
            for many in range(3):
                period = rng.randint(1, model.behind)
                asked.append((MORE, rng.randint(1, len(model.stores)), period, rng.randint(-4, 4)))
                asked.append((WIDER, rng.randint(1, len(model.links)), period, rng.randint(-3, 4)))
            told = ask(*calls, *asked)[len(calls):]
            self.assertEqual(told, [model.call(*call) for call in asked], (calls, asked))
            for call, answer in zip(asked, told):
                key = (call[0], told[1][1], answer[1])
                found[key] = found.get(key, 0) + 1
        for place in (MORE, WIDER, WITHOUT):
            for key in ((place, 0, 0), (place, 0, 1), (place, 1, 0), (place, 1, 1)):
                self.assertGreater(found.get(key, 0), 5, key)


class SchedulesAgainstModel(unittest.TestCase):
    """check and levelsBy of any schedule, let or not."""

    def test_small_houses(self):
        rng = random.Random(9)
        found = {}
        for turn in range(600):
            calls = small_house(rng)
            model = Model()
            for call in calls:
                model.call(*call)
            rows = [[rng.randint(model.least.get(key, 0), model.room.get(key, 0)) for key in model.keys()] for row in range(4)]
            rows += [[rng.randint(0, 4) for key in model.keys()] for row in range(2)]
            asked = [(place, row) for row in rows for place in (CHECK, LEVELS_BY)]
            told = ask(*calls, *asked)[len(calls):]
            self.assertEqual(told, [model.call(*call) for call in asked], (calls, asked))
            for call, answer in zip(asked, told):
                if call[0] == CHECK:
                    key = (answer[1], answer[2] if answer[1] == 0 else 0)
                    found[key] = found.get(key, 0) + 1
        for key in ((0, 1), (0, 2), (0, 3), (1, 0)):
            self.assertGreater(found.get(key, 0), 50, key)


ANY_PLACE = (OPEN, STORE, INFLOW, INFLOW, LINK, LINK, ROOM, ROOM, ROOM, LEAST, LEAST, GAIN_OF, GAIN_OF, ADD, ADD, STEP, STEP,
             PLAN, PLAN, LEVELS, WORTH, MORE, WIDER, WITHOUT, CHECK, CHECK, LEVELS_BY, ASK_STORE, ASK_LINK, STATE)


def any_call(rng, model):
    """A call of any kind, mostly one that is accepted."""
    place = rng.choice(ANY_PLACE)
    stores, links = max(1, len(model.stores)), max(1, len(model.links))
    looked_at = 3 if model.first is None else max(1, model.behind - model.first)

    def number(low, high):
        return rng.choice(FAR) if rng.random() < 0.01 else rng.randint(low, high)

    def sent(keys):
        return [rng.randint(model.least.get(key, 0), model.room.get(key, 0)) for key in keys]

    if place in (STEP, CHECK, LEVELS_BY):
        keys = [] if model.first is None else model.keys()
        row = sent(keys if place != STEP else [(link, model.first) for link in range(1, len(model.links) + 1)])
        if rng.random() < 0.1:
            row.append(rng.choice((0, 1, -1, AMOUNT + 1)))
        if row and rng.random() < 0.1:
            row[rng.randrange(len(row))] = rng.choice((0, 1, 2, 3, -1, FARTHEST))
        return place, row
    period = number(1, min(6, looked_at + (rng.random() < 0.1)))
    link = number(1, min(6, links + (rng.random() < 0.1)))
    store = number(1, min(4, stores + (rng.random() < 0.1)))
    return {
        OPEN: (OPEN, number(1, 3)),
        STORE: (STORE, number(1, 5), number(0, 2), max(0, number(-6, 3)), number(-2, 2)),
        INFLOW: (INFLOW, number(1, min(4, stores + 1)), period, number(0, 2)),
        LINK: (LINK, number(0, stores), number(0, stores), number(0, 3)),
        ROOM: (ROOM, link, period, number(0, 3)),
        LEAST: (LEAST, link, period, number(0, 2)),
        GAIN_OF: (GAIN_OF, link, period, number(-2, 2)),
        MORE: (MORE, store, period, number(-3, 3)),
        WIDER: (WIDER, link, period, number(-2, 2)),
        WITHOUT: (WITHOUT, link),
        ASK_STORE: (ASK_STORE, store),
        ASK_LINK: (ASK_LINK, link),
    }.get(place, (place,))


class CallsAgainstModel(unittest.TestCase):

    def test_any_calls_in_any_order(self):
        rng = random.Random(3)
        seen = {}
        for turn in range(300):
            model = Model()
            calls, asked_for = [], []
            for many in range(120):
                call = (OPEN, rng.randint(1, 6)) if many == 5 else any_call(rng, model)
                if PLAN <= call[0] <= WITHOUT and model.first is not None and model.choices() > 400:
                    continue
                calls.append(call)
                asked_for.append(model.call(*call))
                key = (call[0], min(0, asked_for[-1][0]))
                seen[key] = seen.get(key, 0) + 1
            self.assertEqual(ask(*calls), asked_for, calls)
        for key in ((OPEN, -1), (OPEN, -3), (STORE, -7), (STORE, -4), (INFLOW, -5), (INFLOW, -8), (LINK, -7),
                    (LINK, -4), (ROOM, -6), (ROOM, -8), (ROOM, -7), (LEAST, -7), (GAIN_OF, -8), (STEP, -1),
                    (STEP, -2), (STEP, -7), (STEP, -8), (STEP, 0), (PLAN, -2), (PLAN, 0), (LEVELS, -2), (LEVELS, 0),
                    (WORTH, -2), (WORTH, 0), (MORE, -1), (MORE, -2), (MORE, -5), (MORE, -8), (MORE, 0), (WIDER, -1),
                    (WIDER, -2), (WIDER, -6), (WIDER, -8), (WIDER, 0), (WITHOUT, -1), (WITHOUT, -2), (WITHOUT, -6),
                    (WITHOUT, 0), (CHECK, -1), (CHECK, -2), (CHECK, -7), (CHECK, 0), (LEVELS_BY, -1), (LEVELS_BY, -2),
                    (LEVELS_BY, -7), (LEVELS_BY, 0), (ASK_STORE, -1), (ASK_STORE, -2), (ASK_STORE, -5), (ASK_STORE, 0),
                    (ASK_LINK, -1), (ASK_LINK, -2), (ASK_LINK, -6), (ASK_LINK, 0), (STATE, -2), (STATE, 0)):
            self.assertGreater(seen.get(key, 0), 5, key)


if __name__ == "__main__":
    unittest.main()
