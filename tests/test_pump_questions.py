"""Promises 19 to 24: states of pumps, ahead, coils, ledger, stopAll, time; and what they show of 5, 9, 10, 11, 12."""

import unittest

from tests.sheet import (
    ahead, ask, check, clear, coils, joined, ledger, nodes, open_valve, pipe, pulses, pump, pump_state, run, shut,
    stop_all, tell_time, tick, valve,
)

HUGE = 10 ** 18
NO_NUMBER = (-1, HUGE, -HUGE)


def ready(**sizes):
    """Node 0 and node 1, both source and end, and pump 0 between them: fluid can flow either way."""
    return nodes(3, 3) + [(pump(0, 1, **sizes), 0)]


def valved(**sizes):
    """Pump 0 can push from 0 to 1 while valve 0 counts as open, which it does."""
    return nodes(1, 0, 2) + [(pump(0, 1, **sizes), 0), (valve(1, 2), 0), (open_valve(0), 1)]


def at_position(position):
    """Pump 0 of den 1 is at this position, and stands still."""
    target = 1 if position > 0 else -1
    rows = ready(den=1, per=64, tol=1000)
    if position != 0:
        rows += [(run(0, target), 1), (tick(abs(position)), 0), (run(0, 0), 1), (tick(), 0)]
    return rows


class PumpStateTest(unittest.TestCase):
    def test_no_such_pump(self):
        rows = nodes(3, 3) + [(pump_state(0), -1), (pump(0, 1), 0)]
        check(self, rows + [(pump_state(wrong), -1) for wrong in NO_NUMBER + (1,)])

    def test_a_new_pump(self):
        rows = ready(den=1000000, stroke=1000000, slope=1000000, per=64, tol=1000)
        check(self, rows + [(pump_state(0), [0] * 7), (tick(9), 0), (pump_state(0), [0] * 7)])

    def test_each_number_while_it_speeds_up(self):
        # Speeds 4, 8, 9, 9: gathered 4, 12 - 10, 11 - 10, 10 - 10.
        rows = ready(den=10, slope=4) + [(run(0, 9), 1), (pump_state(0), [0, 9, 0, 0, 0, 0, 0])]
        for state in ([0, 9, 4, 4, 0, 0, 0], [0, 9, 8, 2, 1, 1, 0], [0, 9, 9, 1, 2, 2, 0], [0, 9, 9, 0, 3, 3, 0]):
            rows += [(tick(), 0), (pump_state(0), state)]
        check(self, rows)

    def test_each_number_from_one_way_to_the_other(self):
        # Speeds 6, 8, then 2, -4, -10, -10, -10: gathered 6, 14 - 10, then 6, 2, -8, -18 + 10, -18 + 10.
        rows = ready(den=10, slope=6) + [(run(0, 8), 1), (tick(), 0), (pump_state(0), [0, 8, 6, 6, 0, 0, 0])]
        rows += [(tick(), 0), (pump_state(0), [0, 8, 8, 4, 1, 1, 0]), (run(0, -10), 1)]
        for state in ([0, -10, 2, 6, 1, 1, 0], [0, -10, -4, 2, 1, 1, 0], [0, -10, -10, -8, 1, 1, 0],
                      [0, -10, -10, -8, 0, 2, 0], [0, -10, -10, -8, -1, 3, 0]):
            rows += [(tick(), 0), (pump_state(0), state)]
        check(self, rows)

    def test_just_den_and_just_minus_den_make_a_step(self):
        rows = ready(den=10) + [(run(0, 5), 1), (tick(2), 0), (pump_state(0), [0, 5, 5, 0, 1, 1, 0]), (run(0, -5), 1)]
        check(self, rows + [(tick(2), 0), (pump_state(0), [0, -5, -5, 0, 0, 2, 0])])

    def test_gathered_parts_stay_where_the_speed_is_0(self):
        rows = ready(den=10) + [(run(0, -7), 1), (tick(), 0), (run(0, 0), 1), (tick(5), 0)]
        check(self, rows + [(pump_state(0), [0, 0, 0, -7, 0, 0, 0])])

    def test_after_fault_1(self):
        rows = valved(den=10, slope=4) + [(run(0, 9), 1), (tick(3), 0), (pump_state(0), [0, 9, 9, 1, 2, 2, 0])]
        rows += [(shut(0), 1), (pump_state(0), [0, 9, 9, 1, 2, 2, 0]), (tick(), 1)]
        rows += [(pump_state(0), [1, 0, 0, 1, 2, 2, 0]), (open_valve(0), 1), (tick(5), 0)]
        rows += [(pump_state(0), [1, 0, 0, 1, 2, 2, 0]), (run(0, 9), -7), (pump_state(0), [1, 0, 0, 1, 2, 2, 0])]
        check(self, rows + [(clear(0), 1), (pump_state(0), [0, 0, 0, 1, 2, 2, 0])])

    def test_after_fault_2(self):
        rows = ready(den=10, slope=4, per=3) + [(run(0, 9), 1), (tick(5), 0), (pump_state(0), [0, 9, 9, 9, 3, 3, 0])]
        rows += [(pulses(0, 0), [1, 0]), (pump_state(0), [0, 9, 9, 9, 3, 0, 1]), (tick(), 0)]
        rows += [(pump_state(0), [0, 9, 9, 8, 4, 1, 1]), (pulses(0, 1), [0, 2])]
        rows += [(pump_state(0), [2, 0, 0, 8, 4, 1, 2]), (tick(9), 0), (pump_state(0), [2, 0, 0, 8, 4, 1, 2])]
        check(self, rows + [(clear(0), 1), (pump_state(0), [0, 0, 0, 8, 4, 1, 0]), (clear(0), 0)])

    def test_is_of_that_pump_alone(self):
        rows = ready() + [(pump(1, 0), 1), (run(1, 10), 1), (tick(2), 0), (pump_state(0), [0] * 7)]
        check(self, rows + [(pump_state(1), [0, 10, 10, 0, 2, 2, 0])])

    def test_refused_calls_leave_it_as_it_was(self):
        rows = ready() + [(run(0, 7), 1), (tick(), 0), (run(0, 11), -1), (run(0, -11), -1), (pulses(0, -1), -1)]
        check(self, rows + [(pulses(0, 1000001), -1), (tick(0), -1), (tick(201), -1),
                            (pump_state(0), [0, 7, 7, 7, 0, 0, 0])])


class PulsesStateTest(unittest.TestCase):
    def test_moved_becomes_the_rest(self):
        rows = ready(per=4) + [(run(0, -10), 1), (tick(11), 0), (pump_state(0), [0, -10, -10, 0, -11, 11, 0])]
        check(self, rows + [(pulses(0, 2), [2, 0]), (pump_state(0), [0, -10, -10, 0, -11, 3, 0])])

    def test_bad_comes_and_goes(self):
        rows = ready(tol=2)
        for k, bad in ((3, 1), (2, 0), (3, 1), (0, 0), (4, 1)):
            rows += [(pulses(0, k), [0, 0]), (pump_state(0), [0, 0, 0, 0, 0, 0, bad])]
        check(self, rows + [(pulses(0, 3), [0, 2]), (pump_state(0), [2, 0, 0, 0, 0, 0, 2])])

    def test_with_a_fault_bad_stays_and_moved_is_taken_up(self):
        rows = valved(per=2) + [(pulses(0, 9), [0, 0]), (run(0, 10), 1), (tick(5), 0), (shut(0), 1), (tick(), 1)]
        rows += [(pump_state(0), [1, 0, 0, 0, 5, 5, 1]), (pulses(0, 2), [2, 1]), (pump_state(0), [1, 0, 0, 0, 5, 1, 1])]
        check(self, rows + [(pulses(0, 9), [0, 1]), (pump_state(0), [1, 0, 0, 0, 5, 1, 1])])

    def test_clear_with_no_fault_leaves_bad(self):
        rows = ready() + [(pulses(0, 9), [0, 0]), (clear(0), 0), (pump_state(0), [0, 0, 0, 0, 0, 0, 1])]
        check(self, rows)

    def test_clear_after_fault_1_takes_bad_back(self):
        rows = valved() + [(pulses(0, 9), [0, 0]), (shut(0), 1), (run(0, 10), 1), (tick(), 1)]
        check(self, rows + [(pump_state(0), [1, 0, 0, 0, 0, 0, 1]), (clear(0), 1), (pump_state(0), [0] * 7)])


class AheadTest(unittest.TestCase):
    def test_out_of_range(self):
        rows = nodes(3, 3) + [(ahead(0, 0), -1), (pump(0, 1), 0)]
        rows += [(ahead(wrong, 0), -1) for wrong in NO_NUMBER + (1,)]
        check(self, rows + [(ahead(0, n), -1) for n in NO_NUMBER + (10001,)])

    def test_out_of_range_with_a_fault(self):
        rows = ready() + [(pulses(0, 1), [0, 0]), (pulses(0, 1), [0, 2]), (ahead(0, -1), -1), (ahead(0, 10001), -1)]
        check(self, rows + [(ahead(0, 0), [0, 0]), (ahead(0, 10000), [0, 0])])

    def test_n_at_its_ends(self):
        rows = ready() + [(run(0, 10), 1), (ahead(0, 0), [0, 0]), (ahead(0, 1), [0, 1]), (ahead(0, 10000), [0, 10000])]
        check(self, rows + [(run(0, -10), 1), (ahead(0, 0), [0, 0]), (ahead(0, 10000), [0, -10000])])

    def test_a_pump_at_rest(self):
        check(self, ready() + [(ahead(0, 10000), [0, 0])])

    def test_the_ramp_is_gone_through(self):
        # Speeds 3, 6, 9, 10, 10: gathered 3, 9, 18 - 10, 18 - 10, 18 - 10.
        rows = ready(den=10, slope=3) + [(run(0, 10), 1)]
        check(self, rows + [(ahead(0, n), [0, change]) for n, change in enumerate((0, 0, 0, 1, 2, 3, 4))])

    def test_the_ramp_below_0(self):
        # Speeds -1, -2, -3, -4, -5, -5: gathered -1, -3, -6, -10 + 10, -5, -10 + 10.
        rows = ready(den=10, slope=1) + [(run(0, -5), 1)]
        check(self, rows + [(ahead(0, n), [0, change]) for n, change in enumerate((0, 0, 0, 0, -1, -1, -2, -2, -3))])

    def test_starts_from_the_speed_as_it_is_now(self):
        # Slowing down from 10 by 4: speeds 6, 2, 0; gathered 2, so 8, 10 - 10, 0.
        rows = ready(den=10, slope=4) + [(run(0, 10), 1), (tick(3), 0), (pump_state(0), [0, 10, 10, 2, 2, 2, 0])]
        rows += [(run(0, 0), 1)]
        check(self, rows + [(ahead(0, n), [0, change]) for n, change in ((1, 0), (2, 1), (3, 1), (10000, 1))])

    def test_starts_from_the_gathered_parts_as_they_are_now(self):
        rows = ready(den=10) + [(run(0, 9), 1), (tick(), 0), (run(0, 1), 1), (ahead(0, 1), [0, 1])]
        rows += [(ahead(0, 10), [0, 1]), (ahead(0, 11), [0, 2]), (run(0, -1), 1)]
        # From 9 down to -10 it takes 19 ticks.
        check(self, rows + [(ahead(0, 18), [0, 0]), (ahead(0, 19), [0, -1])])

    def test_first_one_way_and_then_the_other(self):
        # Speeds 8, 6, 4, 2, 0, then -2 to -10: 20 parts on, 30 back; and then 10 back in each tick.
        rows = ready(den=10, slope=2) + [(run(0, 10), 1), (tick(5), 0), (pump_state(0), [0, 10, 10, 0, 3, 3, 0])]
        rows += [(run(0, -10), 1)]
        check(self, rows + [(ahead(0, n), [0, change]) for n, change in ((2, 1), (5, 2), (10, -1), (11, -2))])

    def test_is_the_change_not_the_position(self):
        rows = ready(den=1) + [(run(0, 1), 1), (tick(7), 0), (ahead(0, 3), [0, 3]), (run(0, -1), 1)]
        check(self, rows + [(ahead(0, 3), [0, -3]), (ahead(0, 20), [0, -20])])

    def test_a_fault(self):
        rows = valved() + [(run(0, 10), 1), (tick(3), 0), (shut(0), 1), (tick(), 1), (ahead(0, 100), [0, 0])]
        check(self, rows + [(clear(0), 1), (ahead(0, 100), [0, 0]), (run(0, 10), 1), (ahead(0, 100), [0, 100])])

    def test_whether_fluid_can_flow_does_not_matter(self):
        rows = nodes(0, 0) + [(pump(0, 1), 0), (run(0, -5), 1), (ahead(0, 10), [0, -5]), (tick(), 1)]
        check(self, rows + [(ahead(0, 10), [0, 0])])

    def test_nothing_of_the_pump_is_changed(self):
        rows = ready(den=10, slope=4, stroke=3) + [(run(0, 9), 1), (tick(3), 0), (pump_state(0), [0, 9, 9, 1, 2, 2, 0])]
        rows += [(ahead(0, 10000), [0, 9000]), (pump_state(0), [0, 9, 9, 1, 2, 2, 0]), (tell_time(), 3)]
        check(self, rows + [(ledger(), [2, -6, 6]), (ahead(0, 10000), [0, 9000])])

    def test_goes_beyond_the_last_tick_of_the_clock(self):
        rows = ready() + [(tick(200), 0)] * 100 + [(run(0, 10), 1), (ahead(0, 10000), [0, 10000]), (tick(1), -8)]
        check(self, rows)

    def test_is_what_the_ticks_then_bring(self):
        for target in (-97, -31, 0, 5, 60, 100):
            calls = [call for call, _ in ready(den=100, slope=7)] + [run(0, 83), tick(17), run(0, target)]
            told = ask(calls + [ahead(0, 150), pump_state(0), tick(150), pump_state(0)])
            self.assertEqual(told[-4], [0, told[-1][4] - told[-3][4]], target)


class CoilsTest(unittest.TestCase):
    def test_no_such_pump(self):
        rows = nodes(3, 3) + [(coils(0), -1), (pump(0, 1), 0)]
        check(self, rows + [(coils(wrong), -1) for wrong in NO_NUMBER + (1,)])

    def test_all_eight_onward(self):
        rows = ready(den=1) + [(coils(0), 1), (run(0, 1), 1)]
        for on in (3, 2, 6, 4, 12, 8, 9, 1, 3, 2):
            rows += [(tick(), 0), (coils(0), on)]
        check(self, rows)

    def test_all_eight_back(self):
        rows = ready(den=1) + [(coils(0), 1), (run(0, -1), 1)]
        for on in (9, 8, 12, 4, 6, 2, 3, 1, 9, 8):
            rows += [(tick(), 0), (coils(0), on)]
        check(self, rows)

    def test_far_away(self):
        for position, on in ((100, 4), (200, 1), (103, 9), (-100, 4), (-99, 12), (-193, 9), (-200, 1)):
            check(self, at_position(position) + [(coils(0), on), (coils(0), on)])


class LedgerTest(unittest.TestCase):
    def test_no_nodes(self):
        check(self, [(ledger(), 0)])

    def test_no_pumps_and_pumps_at_rest(self):
        check(self, nodes(0, 1, 2) + [(ledger(), [3, 0, 0, 0]), (pump(0, 2, stroke=5), 0), (ledger(), [3, 0, 0, 0])])

    def test_into_b_and_out_of_a(self):
        rows = nodes(3, 0, 3) + [(pump(2, 0, stroke=7), 0), (run(0, 10), 1), (tick(3), 0), (ledger(), [3, 21, 0, -21])]
        check(self, rows + [(run(0, -10), 1), (tick(5), 0), (ledger(), [3, -14, 0, 14])])

    def test_several_pumps_at_one_node(self):
        rows = nodes(3, 3, 3) + [(pump(0, 1, stroke=2), 0), (pump(1, 2, stroke=100), 1), (pump(1, 0, stroke=30), 2)]
        rows += [(run(0, 10), 1), (run(1, 10), 1), (run(2, -10), 1), (tick(4), 0)]
        # 0 to 1: 8; 1 to 2: 400; 0 to 1 by the third: 120.
        check(self, rows + [(ledger(), [3, -128, -272, 400])] * 2)

    def test_the_greatest_stroke(self):
        rows = ready(den=1, stroke=1000000) + [(run(0, -1), 1)] + [(tick(200), 0)] * 100
        check(self, rows + [(ledger(), [2, 20000000000, -20000000000])])

    def test_parts_that_make_no_step_move_nothing(self):
        check(self, ready(den=10, stroke=9) + [(run(0, 9), 1), (tick(), 0), (ledger(), [2, 0, 0])])

    def test_stays_through_a_fault_and_pulses(self):
        rows = valved(stroke=4) + [(run(0, 10), 1), (tick(3), 0), (shut(0), 1), (tick(), 1), (pulses(0, 3), [3, 1])]
        check(self, rows + [(ledger(), [3, -12, 12, 0]), (clear(0), 1), (ledger(), [3, -12, 12, 0])])


class StopAllTest(unittest.TestCase):
    def test_no_pumps(self):
        check(self, [(stop_all(), 0)])

    def test_answers_how_many_had_a_target(self):
        rows = nodes(3, 3) + [(pump(0, 1), k) for k in range(4)] + [(stop_all(), 0)]
        rows += [(run(0, 1), 1), (run(1, -1), 1), (run(3, 10), 1), (run(3, 0), 1), (stop_all(), 2), (stop_all(), 0)]
        check(self, rows + [(pump_state(k), [0] * 7) for k in range(4)])

    def test_the_speed_falls_by_the_slope(self):
        rows = nodes(3, 3) + [(pump(0, 1, slope=4), 0), (pump(0, 1, slope=3), 1), (run(0, 10), 1), (run(1, -6), 1)]
        rows += [(tick(4), 0), (stop_all(), 2)]
        rows += [(pump_state(0), [0, 0, 10, 2, 3, 3, 0]), (pump_state(1), [0, 0, -6, -1, -2, 2, 0])]
        for first, second in (([6, 8, 3, 3], [-3, -4, -2, 2]), ([2, 0, 4, 4], [0, -4, -2, 2]),
                              ([0, 0, 4, 4], [0, -4, -2, 2])):
            rows += [(tick(), 0), (pump_state(0), [0, 0] + first + [0]), (pump_state(1), [0, 0] + second + [0])]
        check(self, rows)

    def test_a_pump_with_a_fault_has_none(self):
        rows = nodes(0, 0) + [(pump(0, 1), 0), (run(0, 10), 1), (tick(), 1), (stop_all(), 0)]
        check(self, rows + [(pump_state(0), [1, 0, 0, 0, 0, 0, 0])])

    def test_they_can_run_again(self):
        rows = ready() + [(run(0, 10), 1), (stop_all(), 1), (run(0, -10), 1), (tick(), 0)]
        check(self, rows + [(pump_state(0), [0, -10, -10, 0, -1, 1, 0])])

    def test_valves_stay(self):
        check(self, nodes(0, 0) + [(valve(0, 1), 0), (open_valve(0), 1), (stop_all(), 0), (joined(0, 1), 1)])


class TimeTest(unittest.TestCase):
    def test_counts_ticks(self):
        rows = [(tell_time(), 0), (tick(), 0), (tell_time(), 1), (tick(200), 0), (tell_time(), 201), (tell_time(), 201)]
        check(self, rows + nodes(0, 0) + [(pipe(0, 1), 0), (tell_time(), 201)])

    def test_refused_ticks_do_not_count(self):
        rows = [(tick(0), -1), (tick(201), -1), (tell_time(), 0)] + [(tick(200), 0)] * 99
        rows += [(tick(199), 0), (tick(2), -8), (tell_time(), 19999), (tick(1), 0), (tell_time(), 20000)]
        check(self, rows + [(tick(1), -8), (tell_time(), 20000)])

    def test_ticks_with_faults_count(self):
        check(self, nodes(0, 0) + [(pump(0, 1), 0), (run(0, 10), 1), (tick(7), 1), (tell_time(), 7)])


if __name__ == "__main__":
    unittest.main()
