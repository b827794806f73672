"""What each call does to a plant, and what it answers.

Each def below takes the plant and the call's numbers behind its place, and gives back the list of numbers answered.
"""

MOST_NODES = 24
MOST_PIPES = 48
MOST_VALVES = 48
MOST_FORBIDDEN = 24
MOST_PUMPS = 8
MOST_CLOCK = 20000
MOST_AHEAD = 10000

OUT_OF_RANGE = -1
FULL = -2
SAME_NODE = -3
WOULD_JOIN = -5
ARE_JOINED = -6
HAS_FAULT = -7
TOO_LATE = -8
NO_WAY = -9

# den, stroke, slope, per, tol: the least and the most of each.
PUMP_RANGES = ((1, 1000000), (1, 1000000), (1, 1000000), (1, 64), (0, 1000))

# Which coils are on at each of eight positions in a row.
COILS = (1, 3, 2, 6, 4, 12, 8, 9)


def with_count(numbers):
    return [len(numbers)] + numbers


def with_count_of_pairs(pairs):
    told = [len(pairs)]
    for pair in pairs:
        told.extend(pair)
    return told


def has_both(plant, a, b):
    return plant.net.has_node(a) and plant.net.has_node(b)


# Pipes, valves and pumps share these refusals and their order; 0 is none of them.
def new_link_refusal(plant, a, b, there, most):
    if not has_both(plant, a, b):
        return OUT_OF_RANGE
    if a == b:
        return SAME_NODE
    if there >= most:
        return FULL
    return 0


def node(plant, given):
    flags = given[0]
    there = len(plant.net.flags)
    if not 0 <= flags <= 3:
        return [OUT_OF_RANGE]
    if there >= MOST_NODES:
        return [FULL]
    plant.net.flags.append(flags)
    return [there]


def pipe(plant, given):
    a = given[0]
    b = given[1]
    there = len(plant.net.pipes)
    refusal = new_link_refusal(plant, a, b, there, MOST_PIPES)
    if refusal != 0:
        return [refusal]
    if len(plant.net.pairs_joined_by(a, b)) > 0:
        return [WOULD_JOIN]
    plant.net.pipes.append((a, b))
    return [there]


def valve(plant, given):
    a = given[0]
    b = given[1]
    travel = given[2]
    there = len(plant.net.valves)
    if not 0 <= travel <= 60:
        return [OUT_OF_RANGE]
    refusal = new_link_refusal(plant, a, b, there, MOST_VALVES)
    if refusal != 0:
        return [refusal]
    plant.net.add_valve(a, b, travel)
    return [there]


def forbid(plant, given):
    a = given[0]
    b = given[1]
    if not has_both(plant, a, b):
        return [OUT_OF_RANGE]
    if a == b:
        return [SAME_NODE]
    if plant.net.forbidden_as(a, b) is not None:
        return [0]
    if len(plant.net.forbidden) >= MOST_FORBIDDEN:
        return [FULL]
    if plant.net.are_joined(a, b):
        return [ARE_JOINED]
    plant.net.forbidden.append((a, b))
    return [1]


def allow(plant, given):
    a = given[0]
    b = given[1]
    if not has_both(plant, a, b):
        return [OUT_OF_RANGE]
    pair = plant.net.forbidden_as(a, b)
    if pair is None:
        return [0]
    plant.net.forbidden.remove(pair)
    return [1]


def pump(plant, given):
    a = given[0]
    b = given[1]
    sizes = given[2:]
    there = len(plant.pumps)
    for size, ends in zip(sizes, PUMP_RANGES):
        if not ends[0] <= size <= ends[1]:
            return [OUT_OF_RANGE]
    refusal = new_link_refusal(plant, a, b, there, MOST_PUMPS)
    if refusal != 0:
        return [refusal]
    plant.add_pump(a, b, sizes)
    return [there]


def open_valve(plant, given):
    v = given[0]
    if not plant.net.has_valve(v):
        return [OUT_OF_RANGE]
    told = plant.net.valves[v]
    if told.up:
        return [0]
    if len(plant.net.pairs_joined_by(told.a, told.b)) > 0:
        return [WOULD_JOIN]
    told.up = True
    return [1]


def shut_valve(plant, given):
    v = given[0]
    if not plant.net.has_valve(v):
        return [OUT_OF_RANGE]
    told = plant.net.valves[v]
    if not told.up:
        return [0]
    told.up = False
    return [1]


def shut_all(plant, given):
    were_up = [each for each in plant.net.valves if each.up]
    for each in were_up:
        each.up = False
    return [len(were_up)]


def run(plant, given):
    p = given[0]
    target = given[1]
    if not plant.has_pump(p):
        return [OUT_OF_RANGE]
    told = plant.pumps[p]
    if abs(target) > told.den:
        return [OUT_OF_RANGE]
    if told.fault != 0:
        return [HAS_FAULT]
    told.target = target
    return [1]


def tick(plant, given):
    ticks = given[0]
    if not 1 <= ticks <= 200:
        return [OUT_OF_RANGE]
    if plant.clock + ticks > MOST_CLOCK:
        return [TOO_LATE]
    before = plant.faults()
    plant.go_on(ticks)
    return [plant.faults() - before]


def pulses(plant, given):
    p = given[0]
    seen = given[1]
    if not plant.has_pump(p) or not 0 <= seen <= 1000000:
        return [OUT_OF_RANGE]
    told = plant.pumps[p]
    expected = told.take_pulses(seen)
    return [expected, told.fault]


def clear_pump(plant, given):
    p = given[0]
    if not plant.has_pump(p):
        return [OUT_OF_RANGE]
    told = plant.pumps[p]
    if told.fault == 0:
        return [0]
    told.clear_fault()
    return [1]


def joined(plant, given):
    a = given[0]
    b = given[1]
    if not has_both(plant, a, b):
        return [OUT_OF_RANGE]
    return [1 if plant.net.are_joined(a, b) else 0]


def islands(plant, given):
    return with_count(plant.net.islands())


def way(plant, given):
    a = given[0]
    b = given[1]
    if not has_both(plant, a, b):
        return [OUT_OF_RANGE]
    numbers = plant.net.way(a, b)
    if numbers is None:
        return [NO_WAY]
    return with_count(numbers)


def would(plant, given):
    v = given[0]
    if not plant.net.has_valve(v):
        return [OUT_OF_RANGE]
    told = plant.net.valves[v]
    return with_count_of_pairs(plant.net.pairs_joined_by(told.a, told.b))


def bridges(plant, given):
    return with_count(plant.net.bridges())


def valve_state(plant, given):
    v = given[0]
    if not plant.net.has_valve(v):
        return [OUT_OF_RANGE]
    told = plant.net.valves[v]
    counts = 1 if told.counts_as_open() else 0
    up = 1 if told.up else 0
    return [counts, up, told.place, told.travel, told.a, told.b]


def pump_state(plant, given):
    p = given[0]
    if not plant.has_pump(p):
        return [OUT_OF_RANGE]
    told = plant.pumps[p]
    return [told.fault, told.target, told.speed, told.gathered, told.position, told.moved, told.bad]


def ahead(plant, given):
    p = given[0]
    ticks = given[1]
    if not plant.has_pump(p) or not 0 <= ticks <= MOST_AHEAD:
        return [OUT_OF_RANGE]
    # The 0 keeps a change below 0 from looking like a refusal.
    return [0, plant.pumps[p].ahead(ticks)]


def coils(plant, given):
    p = given[0]
    if not plant.has_pump(p):
        return [OUT_OF_RANGE]
    return [COILS[plant.pumps[p].position % len(COILS)]]


def ledger(plant, given):
    return with_count(plant.ledger())


def stop_all(plant, given):
    driven = [each for each in plant.pumps if each.target != 0]
    for each in driven:
        each.target = 0
    return [len(driven)]


def tell_time(plant, given):
    return [plant.clock]


def forbidden(plant, given):
    return with_count_of_pairs(plant.net.forbidden)


# A call's place is its index here.
CALLS = (
    node, pipe, valve, forbid, allow, pump, open_valve, shut_valve, shut_all, run, tick, pulses, clear_pump,
    joined, islands, way, would, bridges, valve_state, pump_state, ahead, coils, ledger, stop_all, tell_time, forbidden,
)


def answer(plant, place, given):
    call = CALLS[place]
    return call(plant, given)
