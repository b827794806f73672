"""Promises 13 to 18 and 25: what is joined, ways, bridges, forbidden pairs; and what valveState shows of 2, 6, 7, 8."""

import unittest

from tests.sheet import (
    allow, ask, bridges, check, forbid, forbidden, islands, joined, node, nodes, open_valve, pipe, pump, run, shut,
    shut_all, tick, valve, valve_state, way, would,
)

HUGE = 10 ** 18
NO_NUMBER = (-1, HUGE, -HUGE)


def opened(*ends, travel=0):
    """Valves 0, 1, ... between these nodes, all of them up."""
    rows = [(valve(a, b, travel), v) for v, (a, b) in enumerate(ends)]
    return rows + [(open_valve(v), 1) for v in range(len(ends))]


def closing(a, b):
    """Valve 0 is down, with its place at 2."""
    return [(valve(a, b, 5), 0), (open_valve(0), 1), (tick(3), 0), (shut(0), 1), (tick(), 0)]


class JoinedTest(unittest.TestCase):
    def test_no_such_node(self):
        rows = [(joined(0, 0), -1)] + nodes(0, 0)
        for wrong in NO_NUMBER + (2,):
            rows += [(joined(wrong, 0), -1), (joined(0, wrong), -1), (joined(wrong, wrong), -1)]
        check(self, rows)

    def test_a_node_with_itself(self):
        check(self, nodes(0, 0) + [(joined(0, 0), 1), (joined(1, 1), 1), (joined(0, 1), 0), (joined(1, 0), 0)])

    def test_through_pipes_in_either_direction(self):
        rows = nodes(0, 0, 0, 0) + [(pipe(0, 2), 0), (pipe(1, 2), 1), (joined(0, 1), 1), (joined(1, 0), 1)]
        check(self, rows + [(joined(2, 0), 1), (joined(3, 0), 0), (joined(0, 3), 0)])

    def test_through_valves_in_either_direction(self):
        rows = nodes(0, 0, 0) + opened((1, 0), (1, 2)) + [(joined(0, 2), 1), (joined(2, 0), 1)]
        check(self, rows + [(shut(1), 1), (joined(0, 2), 0), (joined(2, 0), 0), (joined(0, 1), 1)])

    def test_through_pipes_and_valves(self):
        rows = nodes(0, 0, 0, 0) + [(pipe(3, 1), 0), (pipe(0, 2), 1)] + opened((1, 2))
        check(self, rows + [(joined(3, 0), 1), (joined(0, 3), 1)])

    def test_through_a_valve_until_its_place_is_0(self):
        rows = nodes(0, 0) + closing(0, 1) + [(joined(0, 1), 1), (joined(1, 0), 1), (tick(), 0), (joined(0, 1), 1)]
        check(self, rows + [(tick(), 0), (joined(0, 1), 0), (joined(1, 0), 0)])

    def test_not_through_a_shut_valve_or_a_pump(self):
        rows = nodes(3, 3) + [(valve(0, 1, 4), 0), (pump(0, 1), 0), (run(0, 10), 1), (tick(), 0)]
        check(self, rows + [(joined(0, 1), 0), (joined(1, 0), 0)])


class IslandsTest(unittest.TestCase):
    def test_no_nodes(self):
        check(self, [(islands(), 0)])

    def test_nodes_joined_to_nothing(self):
        check(self, nodes(0, 1, 2) + [(islands(), [3, 0, 1, 2]), (node(), 3), (islands(), [4, 0, 1, 2, 3])])

    def test_the_least_through_greater_ones(self):
        rows = nodes(0, 0, 0, 0, 0, 0) + [(pipe(1, 5), 0), (pipe(5, 2), 1), (pipe(2, 4), 2)]
        check(self, rows + [(islands(), [6, 0, 1, 1, 3, 1, 1])])

    def test_links_told_from_the_far_end(self):
        rows = nodes(0, 0, 0, 0, 0) + [(pipe(3, 4), 0), (pipe(2, 3), 1), (pipe(1, 2), 2)]
        check(self, rows + [(islands(), [5, 0, 1, 1, 1, 1])])

    def test_valves_that_count_as_open(self):
        rows = nodes(0, 0, 0) + closing(2, 0) + [(valve(1, 2), 1), (islands(), [3, 0, 1, 0])]
        rows += [(open_valve(1), 1), (islands(), [3, 0, 0, 0]), (tick(2), 0), (islands(), [3, 0, 1, 1])]
        check(self, rows)

    def test_24_in_a_row(self):
        rows = nodes(*[0] * 24) + [(pipe(k, k + 1), k) for k in range(23)]
        check(self, rows + [(islands(), [24] + [0] * 24)])


class WayTest(unittest.TestCase):
    def test_no_such_node(self):
        rows = [(way(0, 0), -1)] + nodes(0, 0)
        for wrong in NO_NUMBER + (2,):
            rows += [(way(wrong, 0), -1), (way(0, wrong), -1), (way(wrong, wrong), -1)]
        check(self, rows)

    def test_not_joined(self):
        rows = nodes(0, 0, 0) + [(valve(0, 1, 3), 0), (way(0, 1), -9), (way(1, 0), -9), (pump(0, 1), 0)]
        check(self, rows + [(way(0, 1), -9), (open_valve(0), 1), (way(0, 1), [1, 0]), (way(0, 2), -9)])

    def test_a_node_to_itself_has_no_valves(self):
        check(self, nodes(0, 0) + [(way(1, 1), 0)] + opened((0, 1)) + [(way(0, 0), 0), (way(1, 1), 0)])

    def test_pipes_alone_have_no_valves(self):
        rows = nodes(0, 0, 0, 0) + [(pipe(2, 0), 0), (pipe(2, 3), 1)] + opened((0, 3), (0, 1))
        check(self, rows + [(way(0, 3), 0), (way(3, 0), 0)])

    def test_in_the_order_in_which_they_are_gone_through(self):
        # 0 -valve 2- 1 -valve 0- 2 -valve 1- 3
        rows = nodes(0, 0, 0, 0) + opened((1, 2), (2, 3), (0, 1))
        check(self, rows + [(way(0, 3), [3, 2, 0, 1]), (way(3, 0), [3, 1, 0, 2]), (way(1, 3), [2, 0, 1])])

    def test_through_a_valve_from_its_b_to_its_a(self):
        rows = nodes(0, 0, 0) + opened((1, 0), (2, 1))
        check(self, rows + [(way(0, 2), [2, 0, 1]), (way(2, 0), [2, 1, 0])])

    def test_fewer_valves_come_before_lesser_numbers(self):
        rows = nodes(0, 0, 0, 0) + opened((0, 1), (1, 2), (2, 3), (0, 3))
        check(self, rows + [(way(0, 3), [1, 3]), (way(3, 0), [1, 3]), (way(0, 2), [2, 0, 1])])

    def test_pipes_cost_nothing(self):
        # Each valve leads from the place of 0 and 1 to that of 2, 3 and 4.
        rows = nodes(0, 0, 0, 0, 0) + [(pipe(0, 1), 0), (pipe(2, 3), 1), (pipe(3, 4), 2)]
        check(self, rows + opened((3, 1), (1, 2), (0, 4)) + [(way(0, 4), [1, 0]), (shut(0), 1), (way(0, 4), [1, 1])])

    def test_one_valve_and_pipes_come_before_two_valves(self):
        rows = nodes(0, 0, 0, 0, 0, 0) + [(pipe(3, 0), 0), (pipe(4, 5), 1), (pipe(2, 5), 2)]
        check(self, rows + opened((0, 1), (1, 2), (4, 3)) + [(way(0, 2), [1, 2]), (way(2, 0), [1, 2])])

    def test_the_least_first_valve_then_the_least_second_one(self):
        # From 0 to 4 over 1 (valves 1, 5), over 2 (valves 2, 0), over 3 (valves 4, 3).
        rows = nodes(0, 0, 0, 0, 0) + opened((2, 4), (0, 1), (0, 2), (3, 4), (0, 3), (1, 4))
        rows += [(way(0, 4), [2, 1, 5]), (way(4, 0), [2, 0, 2]), (shut(1), 1), (way(0, 4), [2, 2, 0])]
        check(self, rows + [(shut(2), 1), (way(0, 4), [2, 4, 3]), (shut(3), 1), (way(0, 4), -9)])

    def test_the_same_first_valve_then_the_least_second_one(self):
        # Valve 0 leads from 0 to a place of 1 and 2; from there 3 leads on from 1, 2 from 2.
        rows = nodes(0, 0, 0, 0) + [(pipe(1, 2), 0)] + opened((0, 1), (0, 2), (2, 3), (1, 3))
        check(self, rows + [(way(0, 3), [2, 0, 2]), (way(3, 0), [2, 2, 0])])

    def test_the_least_first_valve_into_a_dead_end_is_not_taken(self):
        rows = nodes(0, 0, 0, 0) + opened((0, 3), (0, 1), (1, 2))
        check(self, rows + [(way(0, 2), [2, 1, 2])])

    def test_round_a_ring_on_its_shorter_side(self):
        rows = nodes(0, 0, 0, 0, 0) + opened((0, 1), (0, 4), (4, 3), (3, 2), (2, 1))
        rows += [(way(2, 0), [2, 4, 0]), (way(0, 2), [2, 0, 4]), (way(3, 0), [2, 2, 1]), (way(0, 3), [2, 1, 2])]
        check(self, rows + [(way(1, 3), [2, 4, 3]), (way(4, 2), [2, 2, 3])])

    def test_two_valves_between_the_same_nodes(self):
        rows = nodes(0, 0, 0) + opened((0, 1), (1, 0), (2, 1), (1, 2))
        check(self, rows + [(way(0, 2), [2, 0, 2]), (shut(0), 1), (way(0, 2), [2, 1, 2]), (way(2, 0), [2, 2, 1])])

    def test_a_valve_that_does_not_count_as_open_is_not_used(self):
        rows = nodes(0, 0, 0) + closing(0, 2) + [(valve(0, 1), 1), (valve(1, 2), 2), (open_valve(1), 1)]
        rows += [(open_valve(2), 1), (way(0, 2), [1, 0]), (tick(2), 0), (way(0, 2), [2, 1, 2])]
        check(self, rows)

    def test_a_valve_beside_a_pipe_is_not_gone_through(self):
        rows = nodes(0, 0, 0) + [(pipe(0, 1), 0)] + opened((0, 1), (1, 2))
        check(self, rows + [(way(0, 2), [1, 1]), (way(2, 0), [1, 1])])

    def test_through_all_24_nodes(self):
        rows = nodes(*[0] * 24) + opened(*[(k, k + 1) for k in range(23)])
        check(self, rows + [(way(0, 23), [23] + list(range(23))), (way(23, 0), [23] + list(range(22, -1, -1)))])

    def test_changes_nothing(self):
        rows = nodes(0, 0, 0) + opened((0, 1), (1, 2)) + [(way(0, 2), [2, 0, 1])] * 3
        check(self, rows + [(shut_all(), 2), (way(0, 2), -9)])


class WouldTest(unittest.TestCase):
    def test_no_such_valve(self):
        rows = nodes(0, 0) + [(would(0), -1), (valve(0, 1), 0)]
        check(self, rows + [(would(wrong), -1) for wrong in NO_NUMBER + (1,)])

    def test_no_pairs(self):
        rows = nodes(0, 0, 0) + [(valve(0, 1), 0), (would(0), 0), (forbid(0, 2), 1), (would(0), 0)]
        check(self, rows + [(allow(0, 2), 1), (forbid(1, 0), 1), (allow(0, 1), 1), (would(0), 0)])

    def test_each_as_it_was_forbidden_in_their_order(self):
        rows = nodes(0, 0, 0, 0, 0) + [(pipe(0, 1), 0), (pipe(2, 3), 1), (valve(1, 2, 7), 0)]
        rows += [(forbid(3, 0), 1), (forbid(4, 0), 1), (forbid(1, 2), 1), (forbid(2, 0), 1)]
        rows += [(would(0), [3, 3, 0, 1, 2, 2, 0]), (allow(2, 1), 1), (would(0), [2, 3, 0, 2, 0]), (forbid(2, 1), 1)]
        check(self, rows + [(would(0), [3, 3, 0, 2, 0, 2, 1])])

    def test_by_the_other_valves_as_they_are(self):
        rows = nodes(0, 0, 0) + closing(0, 1) + [(valve(1, 2), 1), (forbid(0, 2), 1), (would(1), [1, 0, 2])]
        check(self, rows + [(tick(2), 0), (would(1), 0), (would(0), 0), (open_valve(1), 1), (would(0), [1, 0, 2])])

    def test_a_valve_that_counts_as_open_already(self):
        rows = nodes(0, 0, 0) + [(forbid(0, 2), 1), (valve(1, 2), 0), (valve(0, 1, 3), 1), (open_valve(1), 1)]
        check(self, rows + [(would(1), 0), (tick(2), 0), (would(1), 0), (shut(1), 1), (would(1), 0)])

    def test_changes_nothing(self):
        rows = nodes(0, 0) + [(forbid(0, 1), 1), (valve(0, 1), 0), (would(0), [1, 0, 1]), (would(0), [1, 0, 1])]
        rows += [(joined(0, 1), 0), (valve_state(0), [0, 0, 0, 0, 0, 1]), (forbidden(), [1, 0, 1])]
        check(self, rows + [(open_valve(0), -5), (would(0), [1, 0, 1])])


class BridgesTest(unittest.TestCase):
    def test_none(self):
        check(self, [(bridges(), 0)] + nodes(0, 0) + [(valve(0, 1, 9), 0), (bridges(), 0)])

    def test_in_a_row_the_least_number_first(self):
        rows = nodes(0, 0, 0, 0) + opened((2, 3), (1, 0), (2, 1))
        check(self, rows + [(bridges(), [3, 0, 1, 2]), (shut(1), 1), (bridges(), [2, 0, 2])])

    def test_two_side_by_side_are_none(self):
        for second in ((0, 1), (1, 0)):
            rows = nodes(0, 0, 0) + opened((0, 1), second, (1, 2)) + [(bridges(), [1, 2])]
            check(self, rows + [(shut(0), 1), (bridges(), [2, 1, 2])])

    def test_beside_a_pipe(self):
        for a, b in ((0, 1), (1, 0)):
            rows = nodes(0, 0, 0) + opened((0, 1), (1, 2)) + [(bridges(), [2, 0, 1]), (pipe(a, b), 0)]
            check(self, rows + [(bridges(), [1, 1])])

    def test_beside_a_chain(self):
        rows = nodes(0, 0, 0, 0) + [(pipe(0, 2), 0)] + opened((0, 1), (2, 1), (1, 3))
        check(self, rows + [(bridges(), [1, 2]), (shut(1), 1), (bridges(), [2, 0, 2])])

    def test_down_with_its_place_above_0(self):
        rows = nodes(0, 0) + closing(0, 1) + [(bridges(), [1, 0]), (tick(), 0), (bridges(), [1, 0]), (tick(), 0)]
        check(self, rows + [(bridges(), 0)])

    def test_beside_one_that_is_on_its_way(self):
        rows = nodes(0, 0) + closing(0, 1) + [(valve(0, 1), 1), (open_valve(1), 1), (bridges(), 0), (tick(2), 0)]
        check(self, rows + [(bridges(), [1, 1])])

    def test_changes_nothing(self):
        rows = nodes(0, 0) + opened((0, 1)) + [(bridges(), [1, 0])] * 2
        check(self, rows + [(joined(0, 1), 1), (valve_state(0), [1, 1, 0, 0, 0, 1])])


class ValveStateTest(unittest.TestCase):
    def test_no_such_valve(self):
        rows = nodes(0, 0) + [(valve_state(0), -1), (valve(0, 1), 0)]
        check(self, rows + [(valve_state(wrong), -1) for wrong in NO_NUMBER + (1,)])

    def test_a_new_valve_and_its_nodes_as_they_were_told(self):
        rows = nodes(0, 0, 0) + [(valve(2, 1, 60), 0), (valve(1, 2, 5), 1), (valve_state(0), [0, 0, 0, 60, 2, 1])]
        check(self, rows + [(valve_state(1), [0, 0, 0, 5, 1, 2])])

    def test_up_and_down_again(self):
        rows = nodes(0, 0) + [(valve(0, 1, 2), 0), (open_valve(0), 1), (valve_state(0), [1, 1, 0, 2, 0, 1])]
        for place in (1, 2, 2):
            rows += [(tick(), 0), (valve_state(0), [1, 1, place, 2, 0, 1])]
        rows += [(shut(0), 1), (valve_state(0), [1, 0, 2, 2, 0, 1])]
        for counts, place in ((1, 1), (0, 0), (0, 0)):
            rows += [(tick(), 0), (valve_state(0), [counts, 0, place, 2, 0, 1])]
        check(self, rows)

    def test_turned_round_on_its_way(self):
        rows = nodes(0, 0) + [(valve(0, 1, 60), 0), (open_valve(0), 1), (tick(40), 0), (shut(0), 1), (tick(15), 0)]
        rows += [(valve_state(0), [1, 0, 25, 60, 0, 1]), (open_valve(0), 1), (valve_state(0), [1, 1, 25, 60, 0, 1])]
        check(self, rows + [(tick(7), 0), (valve_state(0), [1, 1, 32, 60, 0, 1])])

    def test_travel_0(self):
        rows = nodes(0, 0) + [(valve(0, 1, 0), 0), (valve_state(0), [0, 0, 0, 0, 0, 1]), (open_valve(0), 1)]
        rows += [(valve_state(0), [1, 1, 0, 0, 0, 1]), (tick(3), 0), (valve_state(0), [1, 1, 0, 0, 0, 1])]
        check(self, rows + [(shut(0), 1), (valve_state(0), [0, 0, 0, 0, 0, 1])])

    def test_shut_and_open_tell_that_valve_alone(self):
        rows = nodes(0, 0) + opened((0, 1), (0, 1), travel=1) + [(tick(), 0), (shut(0), 1)]
        check(self, rows + [(valve_state(0), [1, 0, 1, 1, 0, 1]), (valve_state(1), [1, 1, 1, 1, 0, 1])])

    def test_shut_all_leaves_the_places(self):
        rows = nodes(0, 0) + opened((0, 1), (1, 0), travel=9) + [(tick(4), 0), (valve(0, 1, 9), 2), (shut_all(), 2)]
        rows += [(valve_state(0), [1, 0, 4, 9, 0, 1]), (valve_state(1), [1, 0, 4, 9, 1, 0])]
        check(self, rows + [(valve_state(2), [0, 0, 0, 9, 0, 1]), (tick(4), 0), (valve_state(0), [0, 0, 0, 9, 0, 1])])

    def test_a_refused_open_leaves_it_as_it_was(self):
        rows = nodes(0, 0) + [(forbid(0, 1), 1), (valve(0, 1, 3), 0), (open_valve(0), -5), (tick(), 0)]
        check(self, rows + [(valve_state(0), [0, 0, 0, 3, 0, 1])])

    def test_places_do_not_move_with_refused_ticks(self):
        rows = nodes(0, 0) + opened((0, 1), travel=5) + [(tick(0), -1), (tick(201), -1)]
        check(self, rows + [(valve_state(0), [1, 1, 0, 5, 0, 1])])


class ForbiddenTest(unittest.TestCase):
    def test_none(self):
        check(self, [(forbidden(), 0)] + nodes(0, 0) + [(forbidden(), 0)])

    def test_as_they_were_told_in_order(self):
        rows = nodes(0, 0, 0) + [(forbid(2, 1), 1), (forbid(0, 1), 1), (forbid(2, 0), 1)]
        rows += [(forbid(1, 2), 0), (forbidden(), [3, 2, 1, 0, 1, 2, 0])]
        check(self, rows)

    def test_after_allow(self):
        rows = nodes(0, 0, 0) + [(forbid(2, 1), 1), (forbid(0, 1), 1), (forbid(2, 0), 1), (allow(1, 0), 1)]
        rows += [(forbidden(), [2, 2, 1, 2, 0]), (forbid(1, 0), 1), (forbidden(), [3, 2, 1, 2, 0, 1, 0])]
        check(self, rows + [(allow(1, 2), 1), (allow(0, 2), 1), (allow(0, 1), 1), (forbidden(), 0)])

    def test_refused_pairs_are_not_there(self):
        rows = nodes(0, 0, 0) + [(pipe(0, 1), 0), (forbid(0, 1), -6), (forbid(1, 1), -3), (forbid(0, 3), -1)]
        check(self, rows + [(forbidden(), 0)])

    def test_24_pairs(self):
        pairs = [(k + 1, k) for k in range(23)] + [(0, 2)]
        rows = nodes(*[0] * 24) + [(forbid(a, b), 1) for a, b in pairs] + [(forbid(5, 9), -2)]
        check(self, rows + [(forbidden(), [24] + [k for pair in pairs for k in pair])] * 2)


class NeverJoinedTest(unittest.TestCase):
    def test_no_call_joins_a_forbidden_pair(self):
        # Every valve between four nodes is tried, and ticks go on in between.
        ends = [(a, b) for a in range(4) for b in range(4) if a != b]
        calls = [node() for _ in range(4)] + [valve(a, b, a + b) for a, b in ends] + [forbid(0, 3), forbid(1, 2)]
        for v in range(len(ends)):
            calls += [open_valve(v), tick(2), joined(0, 3), joined(2, 1), shut((v * 5) % len(ends)), joined(3, 0)]
        told = ask(calls)
        self.assertEqual([told[k] for k, call in enumerate(calls) if call[0] == 13 and told[k] != [0]], [])


if __name__ == "__main__":
    unittest.main()
