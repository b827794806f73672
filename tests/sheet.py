"""Calls by their names, and answers taken apart call by call."""

from pumpnet.desk import answers


def node(flags=0):
    return [0, flags]


def pipe(a, b):
    return [1, a, b]


def valve(a, b, travel=0):
    return [2, a, b, travel]


def forbid(a, b):
    return [3, a, b]


def allow(a, b):
    return [4, a, b]


def pump(a, b, den=10, stroke=1, slope=1000000, per=1, tol=0):
    return [5, a, b, den, stroke, slope, per, tol]


def open_valve(v):
    return [6, v]


def shut(v):
    return [7, v]


def shut_all():
    return [8]


def run(p, target):
    return [9, p, target]


def tick(n=1):
    return [10, n]


def pulses(p, k):
    return [11, p, k]


def clear(p):
    return [12, p]


def joined(a, b):
    return [13, a, b]


def islands():
    return [14]


def way(a, b):
    return [15, a, b]


def would(v):
    return [16, v]


def bridges():
    return [17]


def valve_state(v):
    return [18, v]


def pump_state(p):
    return [19, p]


def ahead(p, n):
    return [20, p, n]


def coils(p):
    return [21, p]


def ledger():
    return [22]


def stop_all():
    return [23]


def tell_time():
    return [24]


def forbidden():
    return [25]


def nodes(*flags):
    return [(node(flag), k) for k, flag in enumerate(flags)]


def flat(calls):
    return [number for call in calls for number in call]


def apart(numbers):
    parts = []
    at = 0
    while at < len(numbers):
        end = at + 1 + numbers[at]
        parts.append(numbers[at + 1:end])
        at = end
    return parts


def ask(calls):
    return apart(answers(flat(calls)))


def check(case, rows):
    """Each row is a call and its answer: a number alone, or a list of them."""
    told = ask([call for call, _ in rows])
    case.assertEqual(len(told), len(rows))
    for k, (call, wanted) in enumerate(rows):
        wanted = wanted if isinstance(wanted, list) else [wanted]
        case.assertEqual(told[k], wanted, f"call {k}: {call}")
