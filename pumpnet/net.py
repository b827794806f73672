"""The net: nodes, pipes, valves, forbidden pairs, and which nodes are joined."""

from pumpnet.valve import Valve
from pumpnet.ways import least_way

SOURCE = 1
END = 2


# For each of the nodes below size, the least node that the links join to it.
def least_joined(size, links):
    least = list(range(size))
    for a, b in links:
        low = min(least[a], least[b])
        high = max(least[a], least[b])
        if low != high:
            least = [low if x == high else x for x in least]
    return least


# For each node whether a node with the wanted flag is joined to it.
def reached(least, flags, wanted):
    found = {}
    for low, flag in zip(least, flags):
        if flag & wanted != 0:
            found[low] = True
    return [low in found for low in least]


# Where fluid can come from and go to, by the valves of one moment.
class Flow:
    def __init__(self, least, flags):
        self.fed = reached(least, flags, SOURCE)
        self.drained = reached(least, flags, END)

    def passes(self, a, b):
        return self.fed[a] and self.drained[b]


class Net:
    def __init__(self):
        self.flags = []
        self.pipes = []
        self.valves = []
        self.forbidden = []

    def has_node(self, a):
        return 0 <= a < len(self.flags)

    def has_valve(self, v):
        return 0 <= v < len(self.valves)

    def add_valve(self, a, b, travel):
        self.valves.append(Valve(a, b, travel))

    def links(self):
        return self.pipes + [(valve.a, valve.b) for valve in self.valves if valve.counts_as_open()]

    def islands(self):
        return least_joined(len(self.flags), self.links())

    def are_joined(self, a, b):
        least = self.islands()
        return least[a] == least[b]

    # The forbidden pairs that would be joined if a and b were.
    def pairs_joined_by(self, a, b):
        least = least_joined(len(self.flags), self.links() + [(a, b)])
        return [pair for pair in self.forbidden if least[pair[0]] == least[pair[1]]]

    # The numbers of the valves that the least shortest way goes through, or None where there is no way.
    def way(self, a, b):
        place = least_joined(len(self.flags), self.pipes)
        doors = []
        for v, valve in enumerate(self.valves):
            if valve.counts_as_open():
                doors.append((v, place[valve.a], place[valve.b]))
        return least_way(doors, place[a], place[b])

    def is_bridge(self, valve):
        if not valve.counts_as_open():
            return False
        # A pipe or another valve may be the same link: which of them is left out makes no difference.
        links = self.links()
        links.remove((valve.a, valve.b))
        least = least_joined(len(self.flags), links)
        return least[valve.a] != least[valve.b]

    def bridges(self):
        return [v for v, valve in enumerate(self.valves) if self.is_bridge(valve)]

    # The pair as it was forbidden, either way round, or None.
    def forbidden_as(self, a, b):
        for pair in [(a, b), (b, a)]:
            if pair in self.forbidden:
                return pair
        return None

    def flow(self):
        return Flow(self.islands(), self.flags)

    # Answers whether a valve has ceased to count as open, so that the caller knows when joined nodes have changed.
    def move_valves(self):
        some_closed = False
        for valve in self.valves:
            before = valve.counts_as_open()
            valve.move()
            if before != valve.counts_as_open():
                some_closed = True
        return some_closed
