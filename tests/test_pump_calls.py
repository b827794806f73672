"""Promises 5 and 9 to 12: pumps, ticks, pulses, faults."""

import unittest

from pumpnet.net import Flow
from pumpnet.pump import Pump
from tests.sheet import (
    ask, check, clear, forbid, nodes, open_valve, pipe, pulses, pump, run, shut, tick, valve,
)

HUGE = 10 ** 18


def ready(**sizes):
    """Node 0 and node 1, both source and end, and pump 0 between them: fluid can flow either way."""
    return nodes(3, 3) + [(pump(0, 1, **sizes), 0)]


def starved():
    """Pump 0 has fault 1."""
    return nodes(0, 0) + [(pump(0, 1), 0), (run(0, 10), 1), (tick(), 1)]


class PumpTest(unittest.TestCase):
    def test_numbers_in_order(self):
        check(self, nodes(0, 0) + [(pump(0, 1), 0), (pump(0, 1), 1), (pump(1, 0), 2)])

    def test_each_size_at_its_ends_and_one_beyond(self):
        ends = {
            "den": (1, 1000000), "stroke": (1, 1000000), "slope": (1, 1000000), "per": (1, 64), "tol": (0, 1000),
        }
        for name, (low, high) in ends.items():
            with self.subTest(name):
                rows = nodes(0, 0)
                for wrong in (low - 1, high + 1, HUGE, -HUGE):
                    rows += [(pump(0, 1, **{name: wrong}), -1), (pump(1, 1, **{name: wrong}), -1)]
                check(self, rows + [(pump(0, 1, **{name: low}), 0), (pump(0, 1, **{name: high}), 1)])

    def test_no_such_node(self):
        rows = nodes(0, 0)
        for wrong in (-1, 2, HUGE, -HUGE):
            rows += [(pump(wrong, 0), -1), (pump(0, wrong), -1), (pump(wrong, wrong), -1)]
        check(self, rows)

    def test_same_node(self):
        check(self, nodes(0, 0) + [(pump(1, 1), -3), (pump(0, 1), 0)])

    def test_at_most_8_and_the_order_of_refusals(self):
        rows = nodes(0, 0) + [(pump(0, 1), k) for k in range(8)]
        rows += [(pump(0, 1), -2), (pump(1, 1), -3), (pump(0, 1, tol=1001), -1), (pump(0, 2), -1)]
        check(self, rows)

    def test_joins_nothing(self):
        check(self, ready() + [(run(0, 10), 1), (tick(), 0), (forbid(0, 1), 1)])

    def test_between_a_forbidden_pair(self):
        check(self, nodes(3, 3) + [(forbid(0, 1), 1), (pump(0, 1), 0), (run(0, 10), 1), (tick(), 0)])

    def test_stands_still_at_first(self):
        check(self, ready() + [(tick(200), 0), (pulses(0, 0), [0, 0])])


class RunTest(unittest.TestCase):
    def test_targets_from_minus_den_to_den(self):
        rows = ready(den=7) + [(run(0, target), 1) for target in (-7, 7, 0)]
        check(self, rows + [(run(0, target), -1) for target in (-8, 8, HUGE, -HUGE)])

    def test_no_such_pump(self):
        rows = nodes(3, 3) + [(run(0, 0), -1), (pump(0, 1), 0)]
        check(self, rows + [(run(wrong, 0), -1) for wrong in (-1, 1, HUGE, -HUGE)])

    def test_refused_with_a_fault_but_the_range_comes_first(self):
        rows = starved() + [(run(0, target), -7) for target in (0, 10, -10)]
        check(self, rows + [(run(0, 11), -1), (run(0, -11), -1), (clear(0), 1), (run(0, 10), 1)])

    def test_a_refused_target_is_not_taken(self):
        check(self, ready() + [(run(0, 10), 1), (run(0, 11), -1), (tick(3), 0), (pulses(0, 3), [3, 0])])

    def test_the_last_target_holds(self):
        check(self, ready() + [(run(0, 10), 1), (run(0, 0), 1), (tick(3), 0), (pulses(0, 0), [0, 0])])

    def test_is_for_that_pump_alone(self):
        rows = ready() + [(pump(0, 1), 1), (run(1, 10), 1), (tick(2), 0)]
        check(self, rows + [(pulses(0, 0), [0, 0]), (pulses(1, 2), [2, 0])])


class ClockTest(unittest.TestCase):
    def test_n_out_of_range(self):
        check(self, [(tick(n), -1) for n in (0, -1, 201, HUGE, -HUGE)] + [(tick(1), 0), (tick(200), 0)])

    def test_up_to_20000_and_no_further(self):
        rows = [(tick(200), 0)] * 99 + [(tick(199), 0), (tick(2), -8), (tick(201), -1), (tick(0), -1)]
        check(self, rows + [(tick(1), 0), (tick(1), -8), (tick(200), -8)])

    def test_just_20000_at_once(self):
        check(self, [(tick(200), 0)] * 100 + [(tick(1), -8)])

    def test_refused_ticks_change_nothing(self):
        rows = ready() + [(run(0, 10), 1)] + [(tick(200), 0)] * 99 + [(tick(150), 0)]
        rows += [(pulses(0, 19950), [19950, 0]), (tick(51), -8), (tick(0), -1), (pulses(0, 0), [0, 0])]
        check(self, rows + [(tick(50), 0), (pulses(0, 50), [50, 0])])


def steps_tick_by_tick(rows, count):
    """How many steps each of the next ticks makes, for pump 0 with per 1 and a wide tol."""
    calls = [call for call, _ in rows]
    for _ in range(count):
        calls += [tick(), pulses(0, 0)]
    told = ask(calls)[len(rows):]
    return [told[k][0] for k in range(1, len(told), 2)]


class RampTest(unittest.TestCase):
    def test_rises_by_the_slope_to_the_target_itself(self):
        # Speeds 3, 6, 9, 10, 10: gathered 3, 9, 18, 18, 18.
        rows = ready(den=10, slope=3, tol=1000) + [(run(0, 10), 1)]
        self.assertEqual(steps_tick_by_tick(rows, 5), [0, 0, 1, 1, 1])

    def test_rises_just_to_a_target_one_slope_away(self):
        # Speeds 4, 4, 4, 4, 4: gathered 4, 8, 12, 6, 10.
        rows = ready(den=10, slope=4, tol=1000) + [(run(0, 4), 1)]
        self.assertEqual(steps_tick_by_tick(rows, 5), [0, 0, 1, 0, 1])

    def test_falls_by_the_slope(self):
        # Speeds 4, 8, 10: gathered 4, 12, 12, so 2 are left. Then speeds 6, 2, 0, 0: gathered 8, 10, 0, 0.
        rows = ready(den=10, slope=4, tol=1000) + [(run(0, 10), 1), (tick(3), 0), (pulses(0, 2), [2, 0])]
        rows += [(run(0, 0), 1)]
        check(self, rows)
        self.assertEqual(steps_tick_by_tick(rows, 4), [0, 1, 0, 0])

    def test_goes_through_0_to_the_other_way(self):
        # Speed 4 at first, then -1, -6, -6, -6: gathered 4, and then 3, -3, -9, -15.
        rows = ready(den=10, slope=5, tol=1000) + [(run(0, 4), 1), (tick(), 0), (run(0, -6), 1)]
        self.assertEqual(steps_tick_by_tick(rows, 4), [0, 0, 0, 1])

    def test_a_slow_ramp_below_0(self):
        # Speeds -1, -2, -3, -4, -5: gathered -1, -3, -6, -10, -5, and then -10.
        rows = ready(den=10, slope=1, tol=1000) + [(run(0, -5), 1)]
        self.assertEqual(steps_tick_by_tick(rows, 6), [0, 0, 0, 1, 0, 1])


class GatherTest(unittest.TestCase):
    def test_past_den_the_rest_is_kept(self):
        # 7, 14, 11, 8, 15: what is past 10 stays.
        rows = ready(tol=1000) + [(run(0, 7), 1)]
        self.assertEqual(steps_tick_by_tick(rows, 10), [0, 1, 1, 0, 1, 1, 0, 1, 1, 1])

    def test_past_minus_den_the_rest_is_kept(self):
        rows = ready(tol=1000) + [(run(0, -7), 1)]
        self.assertEqual(steps_tick_by_tick(rows, 10), [0, 1, 1, 0, 1, 1, 0, 1, 1, 1])

    def test_just_den_either_way_is_a_step_a_tick(self):
        for target in (10, -10):
            rows = ready(tol=1000) + [(run(0, target), 1)]
            self.assertEqual(steps_tick_by_tick(rows, 4), [1, 1, 1, 1])

    def test_den_1(self):
        check(self, ready(den=1) + [(run(0, -1), 1), (tick(200), 0), (pulses(0, 200), [200, 0])])

    def test_what_is_gathered_one_way_is_undone_the_other_way(self):
        rows = ready(tol=1000) + [(run(0, 9), 1), (tick(), 0), (run(0, -9), 1)]
        # 9, then 0, -9, -18.
        self.assertEqual(steps_tick_by_tick(rows, 3), [0, 0, 1])

    def test_position_counts_both_ways_and_moved_either_way(self):
        stepper = Pump(0, 1, 10, 1, 100, 1, 0)
        flow = Flow([0, 1], [3, 3])
        seen = []
        for target in (10, 10, 10, -10, -10, -10, -10, -10):
            stepper.target = target
            stepper.tick(flow)
            seen.append((stepper.position, stepper.moved, stepper.gathered))
        self.assertEqual(
            seen, [(1, 1, 0), (2, 2, 0), (3, 3, 0), (2, 4, 0), (1, 5, 0), (0, 6, 0), (-1, 7, 0), (-2, 8, 0)])


class FlowTest(unittest.TestCase):
    def flows(self, flags, target):
        rows = nodes(*flags) + [(pump(0, 1), 0), (run(0, target), 1)]
        return ask([call for call, _ in rows] + [tick()])[-1] == [0]

    def test_needs_a_source_behind_and_an_end_ahead(self):
        for a in range(4):
            for b in range(4):
                with self.subTest(a=a, b=b):
                    self.assertEqual(self.flows((a, b), 1), a in (1, 3) and b in (2, 3))
                    self.assertEqual(self.flows((a, b), -1), b in (1, 3) and a in (2, 3))

    def test_source_and_end_may_lie_further_on(self):
        rows = nodes(0, 0, 1, 2) + [(pump(0, 1), 0), (pipe(2, 0), 0), (valve(1, 3, 5), 0), (open_valve(0), 1)]
        check(self, rows + [(run(0, 10), 1), (tick(3), 0), (run(0, -10), 1), (tick(), 1)])

    def test_a_next_speed_of_0_is_no_fault(self):
        rows = nodes(0, 0) + [(pump(0, 1), 0), (tick(5), 0), (run(0, 0), 1), (tick(), 0), (clear(0), 0)]
        check(self, rows)

    def test_slowing_down_to_0_just_as_the_way_closes(self):
        rows = nodes(1, 0, 2) + [(pump(0, 1), 0), (valve(1, 2, 0), 0), (open_valve(0), 1), (run(0, 10), 1)]
        rows += [(tick(3), 0), (shut(0), 1), (run(0, 0), 1), (tick(), 0), (clear(0), 0)]
        check(self, rows + [(pulses(0, 3), [3, 0])])

    def test_still_slowing_down_as_the_way_closes(self):
        rows = nodes(1, 0, 2) + [(pump(0, 1, slope=5), 0), (valve(1, 2, 0), 0), (open_valve(0), 1), (run(0, 10), 1)]
        rows += [(tick(3), 0), (shut(0), 1), (run(0, 0), 1), (tick(), 1), (clear(0), 1)]
        check(self, rows)

    def test_the_tick_of_the_fault_gathers_nothing(self):
        rows = nodes(1, 0, 2) + [(pump(0, 1), 0), (valve(1, 2, 0), 0), (open_valve(0), 1), (run(0, 5), 1)]
        rows += [(tick(), 0), (shut(0), 1), (tick(), 1), (pulses(0, 0), [0, 1]), (clear(0), 1), (open_valve(0), 1)]
        check(self, rows + [(run(0, 5), 1), (tick(), 0), (pulses(0, 1), [1, 0])])

    def test_valves_move_before_the_pumps_look(self):
        rows = nodes(1, 0, 2) + [(pump(0, 1), 0), (valve(1, 2, 3), 0), (open_valve(0), 1), (run(0, 10), 1)]
        # Shut at place 3: the third tick brings it to 0 before the pump looks.
        rows += [(tick(10), 0), (shut(0), 1), (tick(2), 0), (tick(), 1), (pulses(0, 12), [12, 1])]
        check(self, rows)

    def test_a_way_that_closes_within_one_call(self):
        rows = nodes(1, 0, 2) + [(pump(0, 1), 0), (valve(1, 2, 60), 0), (open_valve(0), 1), (run(0, 10), 1)]
        check(self, rows + [(tick(200), 0), (shut(0), 1), (tick(200), 1), (pulses(0, 259), [259, 1])])

    def test_an_opening_valve_lets_through_from_its_first_tick(self):
        rows = nodes(1, 0, 2) + [(pump(0, 1), 0), (valve(1, 2, 60), 0), (run(0, 10), 1), (open_valve(0), 1)]
        check(self, rows + [(tick(), 0), (pulses(0, 1), [1, 0])])


class FaultTest(unittest.TestCase):
    def test_above_0_and_below_0(self):
        for target in (1, -1):
            rows = nodes(0, 0) + [(pump(0, 1), 0), (run(0, target), 1), (tick(), 1)]
            check(self, rows + [(pulses(0, 0), [0, 1]), (clear(0), 1), (clear(0), 0)])

    def test_only_new_faults_are_counted(self):
        rows = nodes(0, 0) + [(pump(0, 1), k) for k in range(3)] + [(run(0, 1), 1), (tick(), 1), (tick(), 0)]
        rows += [(run(1, 1), 1), (run(2, -1), 1), (tick(4), 2), (tick(200), 0)]
        check(self, rows)

    def test_a_pump_with_a_fault_does_nothing(self):
        rows = nodes(3, 3) + [(pump(0, 1, slope=5, tol=0), 0), (run(0, 10), 1), (tick(4), 0)]
        rows += [(pulses(0, 0), [3, 0]), (pulses(0, 5), [0, 2]), (tick(50), 0), (pulses(0, 9), [0, 2])]
        check(self, rows)

    def test_with_a_fault_not_even_a_target_moves_it(self):
        faulty = Pump(0, 1, 10, 1, 100, 1, 0)
        faulty.fail(1)
        faulty.target = 10
        faulty.tick(Flow([0, 1], [3, 3]))
        self.assertEqual((faulty.speed, faulty.gathered, faulty.position, faulty.moved), (0, 0, 0, 0))

    def test_each_pump_by_itself(self):
        rows = nodes(1, 2) + [(pump(0, 1), 0), (pump(1, 0), 1), (run(0, 10), 1), (run(1, 10), 1), (tick(3), 1)]
        check(self, rows + [(pulses(0, 3), [3, 0]), (pulses(1, 0), [0, 1])])


class PulsesTest(unittest.TestCase):
    def test_out_of_range(self):
        rows = nodes(3, 3) + [(pulses(0, 0), -1), (pump(0, 1), 0)]
        rows += [(pulses(wrong, 0), -1) for wrong in (-1, 1, HUGE, -HUGE)]
        check(self, rows + [(pulses(0, k), -1) for k in (-1, 1000001, HUGE, -HUGE)] + [(pulses(0, 0), [0, 0])])

    def test_k_at_its_ends(self):
        check(self, ready() + [(pulses(0, 1000000), [0, 0]), (pulses(0, 0), [0, 0]), (clear(0), 0)])

    def test_a_refused_call_takes_nothing_up(self):
        check(self, ready() + [(run(0, 10), 1), (tick(2), 0), (pulses(0, -1), -1), (pulses(0, 2), [2, 0])])

    def test_rounded_down_and_the_rest_kept(self):
        rows = ready(per=4) + [(run(0, 10), 1), (tick(7), 0), (pulses(0, 1), [1, 0]), (tick(), 0)]
        check(self, rows + [(pulses(0, 1), [1, 0]), (tick(3), 0), (pulses(0, 0), [0, 0]), (tick(5), 0),
                            (pulses(0, 2), [2, 0])])

    def test_steps_the_other_way_count_too(self):
        rows = ready(per=2) + [(run(0, 10), 1), (tick(3), 0), (run(0, -10), 1), (tick(3), 0)]
        check(self, rows + [(pulses(0, 3), [3, 0])])

    def test_bad_twice_in_a_row_is_fault_2(self):
        rows = ready() + [(run(0, 10), 1), (tick(3), 0), (pulses(0, 2), [3, 0]), (tick(3), 0), (pulses(0, 4), [3, 2])]
        check(self, rows + [(tick(5), 0), (pulses(0, 0), [0, 2]), (run(0, 1), -7), (clear(0), 1)])

    def test_good_between_takes_bad_back(self):
        rows = ready() + [(pulses(0, 1), [0, 0]), (pulses(0, 0), [0, 0])] * 3
        check(self, rows + [(pulses(0, 1), [0, 0]), (pulses(0, 1), [0, 2])])

    def test_bad_goes_from_0_to_1_to_2(self):
        slipping = Pump(0, 1, 10, 1, 1, 1, 0)
        seen = []
        for k in (1, 0, 1, 1):
            slipping.take_pulses(k)
            seen.append((slipping.bad, slipping.fault))
        self.assertEqual(seen, [(1, 0), (0, 0), (1, 0), (2, 2)])

    def test_just_tol_away_is_good_and_one_more_is_bad(self):
        for k, fault in ((7, 0), (13, 0), (6, 2), (14, 2)):
            with self.subTest(k=k):
                rows = ready(tol=3) + [(run(0, 10), 1), (tick(10), 0), (pulses(0, k), [10, 0])]
                check(self, rows + [(tick(10), 0), (pulses(0, k), [10, fault])])

    def test_the_fault_stops_the_pump(self):
        rows = ready(slope=1) + [(run(0, 10), 1), (tick(20), 0), (pulses(0, 0), [15, 0]), (pulses(0, 9), [0, 2])]
        # After clear the target and the speed are 0, so nothing more is gathered.
        check(self, rows + [(clear(0), 1), (tick(100), 0), (pulses(0, 0), [0, 0])])

    def test_with_a_fault_moved_is_still_taken_up(self):
        rows = nodes(1, 0, 2) + [(pump(0, 1, per=2), 0), (valve(1, 2, 0), 0), (open_valve(0), 1), (run(0, 10), 1)]
        rows += [(tick(5), 0), (shut(0), 1), (tick(), 1), (pulses(0, 900), [2, 1]), (pulses(0, 900), [0, 1])]
        # One step of the five is left over; bad is still 0.
        rows += [(clear(0), 1), (open_valve(0), 1), (run(0, 10), 1), (tick(), 0), (pulses(0, 0), [1, 0])]
        check(self, rows + [(pulses(0, 5), [0, 2])])

    def test_with_a_fault_bad_stays(self):
        faulty = Pump(0, 1, 10, 1, 1, 1, 0)
        faulty.bad = 1
        faulty.fail(1)
        for seen in (5, 0):
            faulty.take_pulses(seen)
            self.assertEqual((faulty.bad, faulty.fault), (1, 1))


class ClearTest(unittest.TestCase):
    def test_no_fault(self):
        check(self, ready() + [(clear(0), 0)])

    def test_no_such_pump(self):
        rows = nodes(3, 3) + [(clear(0), -1), (pump(0, 1), 0)]
        check(self, rows + [(clear(wrong), -1) for wrong in (-1, 1, HUGE, -HUGE)])

    def test_each_fault_is_cleared_once(self):
        check(self, starved() + [(clear(0), 1), (clear(0), 0)])
        check(self, ready() + [(pulses(0, 1), [0, 0]), (pulses(0, 1), [0, 2]), (clear(0), 1), (clear(0), 0)])

    def test_bad_is_0_again(self):
        rows = ready() + [(pulses(0, 1), [0, 0]), (pulses(0, 1), [0, 2]), (clear(0), 1)]
        check(self, rows + [(pulses(0, 1), [0, 0]), (pulses(0, 1), [0, 2])])

    def test_with_no_fault_bad_stays(self):
        check(self, ready() + [(pulses(0, 1), [0, 0]), (clear(0), 0), (pulses(0, 1), [0, 2])])

    def test_target_and_speed_are_as_they_were_left(self):
        # The fault left them at 0, so the pump stands still until it is told to run.
        rows = ready(slope=2) + [(run(0, 10), 1), (tick(5), 0), (pulses(0, 0), [3, 0]), (pulses(0, 7), [0, 2])]
        rows += [(clear(0), 1), (tick(9), 0), (pulses(0, 0), [0, 0]), (run(0, 10), 1)]
        # And the ramp begins at 0: speeds 2, 4, 6.
        check(self, rows + [(tick(2), 0), (pulses(0, 0), [0, 0]), (tick(), 0), (pulses(0, 1), [1, 0])])

    def test_the_ramp_begins_at_0_at_once(self):
        rows = ready(den=9, slope=1) + [(pulses(0, 1), [0, 0]), (pulses(0, 1), [0, 2]), (clear(0), 1)]
        # Speeds 1, 2, 3, 4: gathered 1, 3, 6, 10.
        rows += [(run(0, 9), 1), (tick(3), 0), (pulses(0, 0), [0, 0])]
        check(self, rows + [(tick(), 0), (pulses(0, 1), [1, 0])])

    def test_moved_and_gathered_stay(self):
        rows = ready(per=2) + [(run(0, 9), 1), (tick(4), 0), (pulses(0, 5), [1, 0]), (pulses(0, 5), [0, 2])]
        # 36 parts: 3 steps, 6 parts and 1 untold step are left.
        check(self, rows + [(clear(0), 1), (run(0, 4), 1), (tick(), 0), (pulses(0, 1), [1, 0])])


if __name__ == "__main__":
    unittest.main()
