"""What the tests share: asking a house, and a second reading of the document to hold the answers against."""

import copy
import itertools
import unittest
from collections import deque

from lakesandpumps.house import answers

AMOUNT = 10 ** 9
GAIN = 10 ** 6
FARTHEST = 10 ** 18

OPEN, STORE, INFLOW, LINK, ROOM, LEAST, GAIN_OF, ADD, STEP, PLAN = range(10)
LEVELS, WORTH, MORE, WIDER, WITHOUT, CHECK, LEVELS_BY, ASK_STORE, ASK_LINK, STATE = range(10, 20)

# All that a house shows of itself.
VIEW = [(STATE,), *[(ASK_STORE, store) for store in range(1, 5)], *[(ASK_LINK, link) for link in range(1, 7)], (PLAN,)]


def flat(calls):
    """The list of numbers for calls like (0, 6) or (8, [1, 2])."""
    numbers = []
    for call in calls:
        for part in call:
            if isinstance(part, list):
                numbers.append(len(part))
                numbers.extend(part)
            else:
                numbers.append(part)
    return numbers


def cut(told):
    """The answers, a list for each call."""
    found = []
    at = 0
    while at < len(told):
        found.append(told[at + 1:at + 1 + told[at]])
        at += 1 + told[at]
    if at != len(told):
        raise AssertionError("the last answer is shorter than its count")
    return found


def ask(*calls):
    return cut(answers(flat(calls)))


def last(*calls):
    return ask(*calls)[-1]


def rooms(link, amounts, first=1):
    return [(ROOM, link, period, amount) for period, amount in enumerate(amounts, first)]


def leasts(link, amounts):
    return [(LEAST, link, period, amount) for period, amount in enumerate(amounts, 1)]


def gains(link, numbers):
    return [(GAIN_OF, link, period, number) for period, number in enumerate(numbers, 1)]


class Asking(unittest.TestCase):

    def answers(self, before, call, told):
        """The call answers this, and all that the house shows is the same before and behind it."""
        found = ask(*before, *VIEW, call, *VIEW)[len(before):]
        self.assertEqual(found[len(VIEW)], told, (before, call))
        self.assertEqual(found[:len(VIEW)], found[len(VIEW) + 1:], (before, call))

    def answer_all(self, before, expected):
        """As answers, for a dict of calls and what they answer."""
        for call, told in expected.items():
            self.answers(before, call, told)


class Model:
    """A house by the words of the document; its periods keep the number they had when they came."""

    def __init__(self):
        self.first = None
        self.behind = None
        self.stores = []
        self.links = []
        self.inflow = {}
        self.room = {}
        self.least = {}
        self.gain = {}
        self.gained = 0

    def periods(self):
        return range(self.first, self.behind)

    def call(self, place, *given):
        if not self.in_range(place, given):
            return [-1]
        if place != OPEN and self.first is None:
            return [-2]
        names = ("open", "store", "inflow", "link", "set_room", "set_least", "set_gain", "add", "step", "plan", "levels",
                 "worth", "more", "wider", "without", "check", "levels_by", "ask_store", "ask_link", "state")
        return getattr(self, "do_" + names[place])(*given)

    def in_range(self, place, given):
        amount, gain, period, change = (0, AMOUNT), (-GAIN, GAIN), (1, 6), (-AMOUNT, AMOUNT)
        if place in (STEP, CHECK, LEVELS_BY):
            return len(given[0]) <= 36 and all(0 <= number <= AMOUNT for number in given[0])
        told = {OPEN: [period], STORE: [amount, amount, amount, gain], INFLOW: [(1, 4), period, amount],
                LINK: [(0, 4), (0, 4), (0, 5)], ROOM: [(1, 6), period, amount], LEAST: [(1, 6), period, amount],
                GAIN_OF: [(1, 6), period, gain], MORE: [(1, 4), period, change], WIDER: [(1, 6), period, change],
                WITHOUT: [(1, 6)], ASK_STORE: [(1, 4)], ASK_LINK: [(1, 6)]}.get(place, [])
        return all(low <= number <= high for number, (low, high) in zip(given, told, strict=True))

    def do_open(self, periods):
        if self.first is not None:
            return [-3]
        self.first, self.behind = 0, periods
        return [0]

    def do_store(self, cap, beginning, end, left):
        if max(beginning, end) > cap:
            return [-7]
        if len(self.stores) >= 4:
            return [-4]
        self.stores.append({"cap": cap, "beginning": beginning, "end": end, "left": left})
        return [0, len(self.stores)]

    def do_link(self, source, goal, delay):
        if source == goal or source > len(self.stores) or goal > len(self.stores):
            return [-7]
        if len(self.links) >= 6:
            return [-4]
        self.links.append((source, goal, delay))
        return [0, len(self.links)]

    def do_inflow(self, store, period, amount):
        if store > len(self.stores):
            return [-5]
        if self.first + period > self.behind:
            return [-8]
        self.inflow[store, self.first + period - 1] = amount
        return [0]

    def set_of_link(self, numbers, link, period, number, is_wrong):
        if link > len(self.links):
            return [-6]
        key = (link, self.first + period - 1)
        if key[1] >= self.behind:
            return [-8]
        if is_wrong(key):
            return [-7]
        numbers[key] = number
        return [0]

    def do_set_room(self, link, period, amount):
        return self.set_of_link(self.room, link, period, amount, lambda key: amount < self.least.get(key, 0))

    def do_set_least(self, link, period, amount):
        return self.set_of_link(self.least, link, period, amount, lambda key: amount > self.room.get(key, 0))

    def do_set_gain(self, link, period, gain):
        return self.set_of_link(self.gain, link, period, gain, lambda key: False)

    def do_add(self):
        if self.behind - self.first == 6:
            return [-4]
        self.behind += 1
        return [0]

    def keys(self):
        """The sendings in the plan's order, as link and period."""
        return [(link, period) for period in self.periods() for link in range(1, len(self.links) + 1)]

    def level(self, store, behind, sent):
        """A store's level behind a period, from all that came and left till then."""
        total = self.stores[store - 1]["beginning"]
        total += sum(self.inflow.get((store, period), 0) for period in range(self.first, behind + 1))
        for (link, period), amount in sent.items():
            source, goal, delay = self.links[link - 1]
            if source == store and period <= behind:
                total -= amount
            if goal == store and period + delay <= behind:
                total += amount
        return total

    def do_step(self, row):
        if self.first == self.behind:
            return [-8]
        if len(row) != len(self.links):
            return [-7]
        now = self.first
        sent = {(link, now): amount for link, amount in enumerate(row, 1)}
        if any(not self.least.get(key, 0) <= amount <= self.room.get(key, 0) for key, amount in sent.items()):
            return [-7]
        levels = [self.level(store, now, sent) for store in range(1, len(self.stores) + 1)]
        if any(not 0 <= level <= store["cap"] for store, level in zip(self.stores, levels)):
            return [-7]
        for (source, goal, delay), amount in zip(self.links, row):
            if goal and delay and now + delay < self.behind:
                self.inflow[goal, now + delay] = self.inflow.get((goal, now + delay), 0) + amount
        for store, level in zip(self.stores, levels):
            store["beginning"] = level
        self.first += 1
        earned = sum(self.gain.get(key, 0) * amount for key, amount in sent.items())
        self.gained += earned
        return [0, earned]

    def is_let(self, sent):
        for key, amount in sent.items():
            if not self.least.get(key, 0) <= amount <= self.room.get(key, 0):
                return False
        for number, store in enumerate(self.stores, 1):
            if any(not 0 <= self.level(number, period, sent) <= store["cap"] for period in self.periods()):
                return False
            if self.level(number, self.behind - 1, sent) < store["end"]:
                return False
        return True

    def earns(self, sent):
        total = sum(self.gain.get(key, 0) * amount for key, amount in sent.items())
        for number, store in enumerate(self.stores, 1):
            total += store["left"] * self.level(number, self.behind - 1, sent)
        return total

    def choices(self):
        """How many schedules a search goes through."""
        many = 1
        for key in self.keys():
            many *= self.room.get(key, 0) - self.least.get(key, 0) + 1
        return many

    def best(self):
        """What the plan earns and its sendings, or None.

        A search through all schedules; they come in the order in which the plan is chosen.
        """
        keys = self.keys()
        best = None
        for amounts in itertools.product(*[range(self.least.get(key, 0), self.room.get(key, 0) + 1) for key in keys]):
            sent = dict(zip(keys, amounts))
            if self.is_let(sent):
                earned = self.earns(sent)
                if best is None or earned > best[0]:
                    best = (earned, sent)
        return best

    def do_plan(self):
        best = self.best()
        return [0, 0] if best is None else [0, 1, best[0], *best[1].values()]

    def do_worth(self):
        best = self.best()
        return [0, 0] if best is None else [0, 1, best[0]]

    def all_levels(self, sent):
        return [self.level(store, period, sent) for period in self.periods() for store in range(1, len(self.stores) + 1)]

    def do_levels(self):
        best = self.best()
        return [0, 0] if best is None else [0, 1, *self.all_levels(best[1])]

    def supposed(self, name, key, number):
        other = copy.deepcopy(self)
        numbers = getattr(other, name)
        numbers[key] = numbers.get(key, 0) + number
        return other.do_worth()

    def do_more(self, store, period, number):
        if store > len(self.stores):
            return [-5]
        if self.first + period > self.behind:
            return [-8]
        return self.supposed("inflow", (store, self.first + period - 1), number)

    def do_wider(self, link, period, number):
        if link > len(self.links):
            return [-6]
        if self.first + period > self.behind:
            return [-8]
        return self.supposed("room", (link, self.first + period - 1), number)

    def do_without(self, link):
        if link > len(self.links):
            return [-6]
        other = copy.deepcopy(self)
        for period in self.periods():
            other.room[link, period] = other.least[link, period] = 0
        return other.do_worth()

    def do_check(self, row):
        if len(row) != len(self.keys()):
            return [-7]
        sent = dict(zip(self.keys(), row))
        wrong = [key[1] for key, amount in sent.items() if not self.least.get(key, 0) <= amount <= self.room.get(key, 0)]
        for number, store in enumerate(self.stores, 1):
            for period in self.periods():
                low = store["end"] if period == self.behind - 1 else 0
                if not low <= self.level(number, period, sent) <= store["cap"]:
                    wrong.append(period)
        return [0, 0, min(wrong) - self.first + 1] if wrong else [0, 1, self.earns(sent)]

    def do_levels_by(self, row):
        if len(row) != len(self.keys()):
            return [-7]
        return [0, *self.all_levels(dict(zip(self.keys(), row)))]

    def do_ask_store(self, store):
        if store > len(self.stores):
            return [-5]
        return [0, *[self.stores[store - 1][name] for name in ("cap", "beginning", "end", "left")],
                *[self.inflow.get((store, period), 0) for period in self.periods()]]

    def do_ask_link(self, link):
        if link > len(self.links):
            return [-6]
        return [0, *self.links[link - 1], *[numbers.get((link, period), 0) for numbers in (self.room, self.least, self.gain)
                                            for period in self.periods()]]

    def do_state(self):
        return [0, self.behind - self.first, len(self.stores), len(self.links), self.first, self.gained]

    def arcs(self, sent):
        """All sendings and levels as (from, to, least, greatest, now, cost).

        Whatever is behind the last period is outside. The costs order schedules as the plan is chosen.
        """
        keys = self.keys()
        found = []

        def node(store, period):
            return (store, period) if store and period < self.behind else "outside"

        for place, key in enumerate(keys):
            source, goal, delay = self.links[key[0] - 1]
            cost = 1000 ** (len(keys) - 1 - place) - self.gain.get(key, 0) * 1000 ** len(keys)
            found.append((node(source, key[1]), node(goal, key[1] + delay), self.least.get(key, 0),
                          self.room.get(key, 0), sent.get(key, 0), cost))
        for number, store in enumerate(self.stores, 1):
            for period in self.periods():
                is_last = period == self.behind - 1
                found.append((node(number, period), node(number, period + 1), store["end"] if is_last else 0,
                              store["cap"], self.level(number, period, sent),
                              -store["left"] * 1000 ** len(keys) if is_last else 0))
        return found

    def has_better(self, sent):
        """Whether a round of changes leads to a schedule that is chosen before this one, which is let."""
        edges = []
        for start, goal, low, high, now, cost in self.arcs(sent):
            if now < high:
                edges.append((start, goal, cost))
            if now > low:
                edges.append((goal, start, -cost))
        costs = {start: 0 for edge in edges for start in edge[:2]}
        for turn in range(len(costs) + 1):
            is_settled = True
            for start, goal, cost in edges:
                if costs[start] + cost < costs[goal]:
                    costs[goal] = costs[start] + cost
                    is_settled = False
            if is_settled:
                return False
        return True

    def can_be_let(self):
        """Whether some schedule is let: all that must flow is carried from a start to an end."""
        spare = {}

        def widen(start, goal, amount):
            spare.setdefault(start, {}).setdefault(goal, 0)
            spare.setdefault(goal, {}).setdefault(start, 0)
            spare[start][goal] += amount

        def must(start, goal, amount):
            widen("start", goal, amount)
            widen(start, "end", amount)

        for start, goal, low, high, now, cost in self.arcs({}):
            widen(start, goal, high - low)
            must(start, goal, low)
        for number, store in enumerate(self.stores, 1):
            must("outside", (number, self.first), store["beginning"])
            for period in self.periods():
                must("outside", (number, period), self.inflow.get((number, period), 0))
        while True:
            came = {"start": None}
            waiting = deque(["start"])
            while waiting and "end" not in came:
                node = waiting.popleft()
                for goal, amount in spare.get(node, {}).items():
                    if amount > 0 and goal not in came:
                        came[goal] = node
                        waiting.append(goal)
            if "end" not in came:
                return all(amount == 0 for amount in spare.get("start", {}).values())
            way = [("end", came["end"])]
            while way[-1][1] is not None:
                way.append((way[-1][1], came[way[-1][1]]))
            way.pop()
            amount = min(spare[start][goal] for goal, start in way)
            for goal, start in way:
                spare[start][goal] -= amount
                spare[goal][start] += amount


def model_of(calls):
    """The house behind these calls; those that only ask are passed over, for a search might not end."""
    model = Model()
    for call in calls:
        if call[0] < PLAN:
            model.call(*call)
    return model
