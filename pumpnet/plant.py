"""The whole plant: the net, its pumps and the clock of ticks."""

from pumpnet.net import Net
from pumpnet.pump import Pump


class Plant:
    def __init__(self):
        self.net = Net()
        self.pumps = []
        self.clock = 0

    def has_pump(self, p):
        return 0 <= p < len(self.pumps)

    def add_pump(self, a, b, sizes):
        self.pumps.append(Pump(a, b, sizes[0], sizes[1], sizes[2], sizes[3], sizes[4]))

    def faults(self):
        return len([pump for pump in self.pumps if pump.fault != 0])

    # For each node what pumps brought into it less what they took out.
    def ledger(self):
        sums = [0] * len(self.net.flags)
        for pump in self.pumps:
            sums[pump.a] -= pump.position * pump.stroke
            sums[pump.b] += pump.position * pump.stroke
        return sums

    def go_on(self, ticks):
        # Within these ticks a valve can only cease to count as open, so the flow is found anew just then.
        flow = self.net.flow()
        for k in range(ticks):
            self.clock += 1
            if self.net.move_valves():
                flow = self.net.flow()
            for pump in self.pumps:
                pump.tick(flow)
