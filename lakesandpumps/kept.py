"""What a house keeps between its calls."""


class Store:
    """A store, with its inflow for each period that is looked at."""

    def __init__(self, cap, beginning, end, left_value, periods):
        self.cap = cap
        self.beginning = beginning
        self.end = end
        self.left_value = left_value
        self.inflows = [0] * periods

    def lengthen(self):
        self.inflows.append(0)

    def shorten(self):
        self.inflows = self.inflows[1:]

    def twin(self):
        other = Store(self.cap, self.beginning, self.end, self.left_value, 0)
        other.inflows = list(self.inflows)
        return other


class Link:
    """A link, with its room, least and gain for each period that is looked at."""

    def __init__(self, source, goal, delay, periods):
        self.source = source
        self.goal = goal
        self.delay = delay
        self.rooms = [0] * periods
        self.leasts = [0] * periods
        self.gains = [0] * periods

    def lengthen(self):
        self.rooms.append(0)
        self.leasts.append(0)
        self.gains.append(0)

    def shorten(self):
        self.rooms = self.rooms[1:]
        self.leasts = self.leasts[1:]
        self.gains = self.gains[1:]

    def twin(self):
        other = Link(self.source, self.goal, self.delay, 0)
        other.rooms = list(self.rooms)
        other.leasts = list(self.leasts)
        other.gains = list(self.gains)
        return other


class House:
    """A new house: not open, and nothing in it."""

    def __init__(self):
        self.is_open = False
        self.periods = 0
        self.stores = []
        self.links = []
        self.gained = 0
        self.elapsed = 0

    def lengthen(self):
        """One period more, behind the last one."""
        self.periods += 1
        for part in self.stores + self.links:
            part.lengthen()

    def shorten(self):
        """Period 1 goes, and all later ones are numbered 1 less."""
        self.periods -= 1
        for part in self.stores + self.links:
            part.shorten()

    def twin(self):
        """A house like this one, to see what would be if something in it were otherwise."""
        other = House()
        other.is_open = self.is_open
        other.periods = self.periods
        other.stores = [store.twin() for store in self.stores]
        other.links = [link.twin() for link in self.links]
        other.gained = self.gained
        other.elapsed = self.elapsed
        return other
