"""Flows through a network of nodes and arcs, and the cheapest of them."""


class Network:
    """Arcs with bounds and costs between nodes; whatever is supplied to a node is owed by node 0.

    Each arc stands as two edges: edge 2 * k may carry more through arc k, edge 2 * k + 1 takes it back.
    An arc that earns carries all it can at first, any other as little as it may. So no round of edges
    with something to spare has a cost below 0, and carrying along cheapest ways alone keeps it so: that
    is what makes a flow a cheapest one.
    """

    def __init__(self, nodes):
        self.excess = [0] * nodes
        self.edges_from = [[] for node in range(nodes)]
        self.heads = []
        self.costs = []
        self.spare = []
        self.lows = []

    def supply(self, node, amount):
        self.excess[node] += amount
        self.excess[0] -= amount

    def add_arc(self, tail, head, low, high, cost):
        at_first = high if cost < 0 else low
        self.excess[tail] -= at_first
        self.excess[head] += at_first
        self.lows.append(low)
        self.add_edge(tail, head, high - at_first, cost)
        self.add_edge(head, tail, at_first - low, -cost)

    def add_edge(self, tail, head, spare, cost):
        self.edges_from[tail].append(len(self.heads))
        self.heads.append(head)
        self.spare.append(spare)
        self.costs.append(cost)

    def carried(self):
        """What each arc carries, in the order in which the arcs came."""
        return [low + self.spare[2 * arc + 1] for arc, low in enumerate(self.lows)]

    def settle(self):
        """Carries every excess to where something is missing, most cheaply; whether that can be done."""
        while max(self.excess) > 0:
            ways = Ways(self)
            ways.spread()
            goal = ways.nearest_lack()
            if goal is None:
                return False
            self.carry(ways.way_to(goal), goal)
        return True

    def carry(self, way, goal):
        """Carries as much as can be carried along the way, whose last edge stands first."""
        start = self.heads[way[len(way) - 1] ^ 1]
        amount = min(self.excess[start], -self.excess[goal], min([self.spare[edge] for edge in way]))
        for edge in way:
            self.spare[edge] -= amount
            self.spare[edge ^ 1] += amount
        self.excess[start] -= amount
        self.excess[goal] += amount


class Ways:
    """The cheapest ways through a network from the nodes with an excess, along edges with something to spare.

    costs_to has each node's cost (None: no way was found), last_edges the edge by which one comes to it.
    """

    def __init__(self, network):
        self.network = network
        self.costs_to = [0 if excess > 0 else None for excess in network.excess]
        self.last_edges = [None] * len(network.excess)

    def spread(self):
        """Goes on from each node that became cheaper, till none does."""
        network = self.network
        waiting = [node for node, excess in enumerate(network.excess) if excess > 0]
        is_waiting = [excess > 0 for excess in network.excess]
        at = 0
        while at < len(waiting):
            node = waiting[at]
            at += 1
            is_waiting[node] = False
            for edge in network.edges_from[node]:
                head = network.heads[edge]
                if network.spare[edge] > 0 and self.improve(head, self.costs_to[node] + network.costs[edge]):
                    self.last_edges[head] = edge
                    if not is_waiting[head]:
                        is_waiting[head] = True
                        waiting.append(head)

    def improve(self, node, cost):
        """Notes the cost if it is less than the one known; whether it is."""
        known = self.costs_to[node]
        if known is not None and known <= cost:
            return False
        self.costs_to[node] = cost
        return True

    def nearest_lack(self):
        """The cheapest node to come to at which something is missing, or None."""
        nearest = None
        for node, cost in enumerate(self.costs_to):
            if cost is not None and self.network.excess[node] < 0:
                if nearest is None or cost < self.costs_to[nearest]:
                    nearest = node
        return nearest

    def way_to(self, goal):
        """The edges of the cheapest way to the goal, the last one first."""
        way = []
        edge = self.last_edges[goal]
        while edge is not None:
            way.append(edge)
            edge = self.last_edges[self.network.heads[edge ^ 1]]
        return way
