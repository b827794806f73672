"""The document's words for all calls once more, as plainly as can be: nothing kept that could be found anew."""

import copy


def spread(start, links):
    """All nodes to which the links lead from those at the start."""
    seen, todo = set(start), list(start)
    while todo:
        here = todo.pop()
        for x, y in links + [(y, x) for x, y in links]:
            if x == here and y not in seen:
                seen.add(y)
                todo.append(y)
    return seen


class Model:
    def __init__(self):
        self.flags, self.pipes, self.valves, self.pairs, self.pumps = [], [], [], [], []
        self.clock = 0

    def counts(self, valve):
        return valve["up"] or valve["place"] > 0

    def joined(self, a, b, extra=(), without=None):
        links = self.pipes + list(extra)
        links += [(v["a"], v["b"]) for v in self.valves if self.counts(v) and v is not without]
        return b in spread([a], links)

    def breaks(self, extra=()):
        return any(self.joined(a, b, extra) for a, b in self.pairs)

    def missing(self, *wanted):
        return any(not 0 <= a < len(self.flags) for a in wanted)

    def answer(self, call):
        names = ("node", "pipe", "valve", "forbid", "allow", "pump", "open", "shut", "shut_all", "run", "tick",
                 "pulses", "clear", "joined", "islands", "way", "would", "bridges", "valve_state", "pump_state",
                 "ahead", "coils", "ledger", "stop_all", "time", "forbidden")
        told = getattr(self, "call_" + names[call[0]])(*call[1:])
        return told if isinstance(told, list) else [told]

    def call_node(self, flags):
        if flags not in range(4):
            return -1
        if len(self.flags) == 24:
            return -2
        self.flags.append(flags)
        return len(self.flags) - 1

    def call_pipe(self, a, b):
        if self.missing(a, b):
            return -1
        if a == b:
            return -3
        if len(self.pipes) == 48:
            return -2
        if self.breaks([(a, b)]):
            return -5
        self.pipes.append((a, b))
        return len(self.pipes) - 1

    def call_valve(self, a, b, travel):
        if self.missing(a, b) or travel not in range(61):
            return -1
        if a == b:
            return -3
        if len(self.valves) == 48:
            return -2
        self.valves.append({"a": a, "b": b, "travel": travel, "place": 0, "up": False})
        return len(self.valves) - 1

    def call_forbid(self, a, b):
        if self.missing(a, b):
            return -1
        if a == b:
            return -3
        if (a, b) in self.pairs or (b, a) in self.pairs:
            return 0
        if len(self.pairs) == 24:
            return -2
        if self.joined(a, b):
            return -6
        self.pairs.append((a, b))
        return 1

    def call_allow(self, a, b):
        if self.missing(a, b):
            return -1
        left = [pair for pair in self.pairs if pair not in ((a, b), (b, a))]
        told = len(self.pairs) - len(left)
        self.pairs = left
        return told

    def call_pump(self, a, b, den, stroke, slope, per, tol):
        ranges = ((den, 1, 1000000), (stroke, 1, 1000000), (slope, 1, 1000000), (per, 1, 64), (tol, 0, 1000))
        if self.missing(a, b) or any(not low <= x <= high for x, low, high in ranges):
            return -1
        if a == b:
            return -3
        if len(self.pumps) == 8:
            return -2
        self.pumps.append({
            "a": a, "b": b, "den": den, "stroke": stroke, "slope": slope, "per": per, "tol": tol,
            "target": 0, "speed": 0, "gathered": 0, "position": 0, "moved": 0, "bad": 0, "fault": 0,
        })
        return len(self.pumps) - 1

    def call_open(self, v):
        if v not in range(len(self.valves)):
            return -1
        valve = self.valves[v]
        if valve["up"]:
            return 0
        if self.breaks([(valve["a"], valve["b"])]):
            return -5
        valve["up"] = True
        return 1

    def call_shut(self, v):
        if v not in range(len(self.valves)):
            return -1
        told = int(self.valves[v]["up"])
        self.valves[v]["up"] = False
        return told

    def call_shut_all(self):
        return sum(self.call_shut(v) for v in range(len(self.valves)))

    def call_run(self, p, target):
        if p not in range(len(self.pumps)) or not -self.pumps[p]["den"] <= target <= self.pumps[p]["den"]:
            return -1
        if self.pumps[p]["fault"]:
            return -7
        self.pumps[p]["target"] = target
        return 1

    def call_tick(self, n):
        if n not in range(1, 201):
            return -1
        if self.clock + n > 20000:
            return -8
        before = sum(1 for p in self.pumps if p["fault"])
        for _ in range(n):
            self.one_tick()
        return sum(1 for p in self.pumps if p["fault"]) - before

    def one_tick(self):
        self.clock += 1
        for v in self.valves:
            if v["up"] and v["place"] < v["travel"]:
                v["place"] += 1
            elif not v["up"] and v["place"] > 0:
                v["place"] -= 1
        for p in self.pumps:
            if p["fault"] == 0:
                self.one_pump(p)

    def one_pump(self, p):
        speed = self.next_speed(p)
        behind, ahead = (p["a"], p["b"]) if speed > 0 else (p["b"], p["a"])
        every = range(len(self.flags))
        flows = (any(self.flags[k] in (1, 3) and self.joined(k, behind) for k in every)
                 and any(self.flags[k] in (2, 3) and self.joined(k, ahead) for k in every))
        if speed != 0 and not flows:
            p["target"], p["speed"], p["fault"] = 0, 0, 1
        else:
            self.gather(p, speed)

    def next_speed(self, p):
        gap = p["target"] - p["speed"]
        if abs(gap) <= p["slope"]:
            return p["target"]
        return p["speed"] + (p["slope"] if gap > 0 else -p["slope"])

    def gather(self, p, speed):
        p["speed"] = speed
        p["gathered"] += speed
        if p["gathered"] >= p["den"]:
            p["gathered"] -= p["den"]
            p["position"] += 1
            p["moved"] += 1
        if p["gathered"] <= -p["den"]:
            p["gathered"] += p["den"]
            p["position"] -= 1
            p["moved"] += 1

    def call_pulses(self, p, k):
        if p not in range(len(self.pumps)) or k not in range(1000001):
            return -1
        told = self.pumps[p]
        expected, told["moved"] = divmod(told["moved"], told["per"])
        if told["fault"] == 0:
            if -told["tol"] <= k - expected <= told["tol"]:
                told["bad"] = 0
            elif told["bad"] == 0:
                told["bad"] = 1
            else:
                told.update(bad=2, target=0, speed=0, fault=2)
        return [expected, told["fault"]]

    def call_clear(self, p):
        if p not in range(len(self.pumps)):
            return -1
        if self.pumps[p]["fault"] == 0:
            return 0
        self.pumps[p].update(fault=0, bad=0)
        return 1

    def call_joined(self, a, b):
        return -1 if self.missing(a, b) else int(self.joined(a, b))

    def call_islands(self):
        every = range(len(self.flags))
        return [len(self.flags)] + [min(k for k in every if self.joined(k, a)) for a in every]

    def call_way(self, a, b):
        """Each round knows the least list of so many valves to each node, and goes through one valve more."""
        if self.missing(a, b):
            return -1
        if not self.joined(a, b):
            return -9
        known = {k: [] for k in spread([a], self.pipes)}
        while b not in known:
            further = {}
            for v, valve in enumerate(self.valves):
                for x, y in ((valve["a"], valve["b"]), (valve["b"], valve["a"])):
                    if self.counts(valve) and x in known:
                        for k in spread([y], self.pipes):
                            further[k] = min(further.get(k, known[x] + [v]), known[x] + [v])
            known = further
        return [len(known[b])] + known[b]

    def call_would(self, v):
        if v not in range(len(self.valves)):
            return -1
        link = (self.valves[v]["a"], self.valves[v]["b"])
        told = [pair for pair in self.pairs if self.joined(*pair, [link])]
        return [len(told)] + [k for pair in told for k in pair]

    def call_bridges(self):
        told = []
        for v, valve in enumerate(self.valves):
            if self.counts(valve) and not self.joined(valve["a"], valve["b"], without=valve):
                told.append(v)
        return [len(told)] + told

    def call_valve_state(self, v):
        if v not in range(len(self.valves)):
            return -1
        told = self.valves[v]
        return [int(self.counts(told)), int(told["up"]), told["place"], told["travel"], told["a"], told["b"]]

    def call_pump_state(self, p):
        if p not in range(len(self.pumps)):
            return -1
        return [self.pumps[p][name] for name in ("fault", "target", "speed", "gathered", "position", "moved", "bad")]

    def call_ahead(self, p, n):
        if p not in range(len(self.pumps)) or n not in range(10001):
            return -1
        trial = copy.deepcopy(self.pumps[p])
        for _ in range(0 if trial["fault"] else n):
            self.gather(trial, self.next_speed(trial))
        return [0, trial["position"] - self.pumps[p]["position"]]

    def call_coils(self, p):
        if p not in range(len(self.pumps)):
            return -1
        turn, position = [1, 3, 2, 6, 4, 12, 8, 9], self.pumps[p]["position"]
        for _ in range(abs(position)):
            turn = turn[1:] + turn[:1] if position > 0 else turn[-1:] + turn[:-1]
        return turn[0]

    def call_ledger(self):
        told = []
        for k in range(len(self.flags)):
            brought = sum(p["position"] * p["stroke"] for p in self.pumps if p["b"] == k)
            told.append(brought - sum(p["position"] * p["stroke"] for p in self.pumps if p["a"] == k))
        return [len(told)] + told

    def call_stop_all(self):
        told = sum(1 for p in self.pumps if p["target"] != 0)
        for p in self.pumps:
            p["target"] = 0
        return told

    def call_time(self):
        return self.clock

    def call_forbidden(self):
        return [len(self.pairs)] + [k for pair in self.pairs for k in pair]
