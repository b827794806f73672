"""Promises 0 to 4 and 6 to 8: nodes, pipes, valves, forbidden pairs."""

import unittest

from tests.sheet import (
    allow, check, forbid, node, nodes, open_valve, pipe, shut, shut_all, tick, valve,
)

HUGE = 10 ** 18


def full_of_pairs():
    """24 nodes, and 24 pairs forbidden: 0 with each of 1 to 23, and 1 with 2."""
    rows = nodes(*[0] * 24)
    rows += [(forbid(0, k), 1) for k in range(1, 24)]
    return rows + [(forbid(1, 2), 1)]


class NodeTest(unittest.TestCase):
    def test_numbers_in_order_for_each_flag(self):
        check(self, nodes(0, 1, 2, 3))

    def test_flags_out_of_range(self):
        rows = [(node(flags), -1) for flags in (-1, 4, HUGE, -HUGE)]
        check(self, rows + nodes(0))

    def test_at_most_24(self):
        check(self, nodes(*[0] * 24) + [(node(0), -2), (node(3), -2), (node(4), -1), (node(-1), -1)])

    def test_new_node_is_joined_to_nothing(self):
        rows = nodes(0, 0) + [(pipe(0, 1), 0), (node(), 2), (forbid(2, 0), 1), (forbid(1, 2), 1)]
        check(self, rows)


class PipeTest(unittest.TestCase):
    def test_answers_how_many_there_were(self):
        check(self, nodes(0, 0, 0) + [(pipe(0, 1), 0), (pipe(1, 2), 1), (pipe(2, 0), 2)])

    def test_two_between_the_same_nodes(self):
        check(self, nodes(0, 0) + [(pipe(0, 1), 0), (pipe(0, 1), 1), (pipe(1, 0), 2)])

    def test_no_such_node(self):
        rows = nodes(0, 0)
        for wrong in (-1, 2, HUGE, -HUGE):
            rows += [(pipe(wrong, 0), -1), (pipe(0, wrong), -1), (pipe(wrong, wrong), -1)]
        check(self, rows + [(pipe(0, 1), 0)])

    def test_no_node_at_all(self):
        check(self, [(pipe(0, 0), -1)])

    def test_same_node(self):
        check(self, nodes(0, 0) + [(pipe(1, 1), -3), (pipe(0, 1), 0)])

    def test_at_most_48_and_the_order_of_refusals(self):
        rows = nodes(0, 0, 0) + [(forbid(0, 2), 1)]
        rows += [(pipe(0, 1), k) for k in range(48)]
        rows += [(pipe(0, 1), -2), (pipe(1, 2), -2), (pipe(1, 1), -3), (pipe(1, 3), -1)]
        check(self, rows)

    def test_forbidden_pair_straight_either_way(self):
        check(self, nodes(0, 0) + [(forbid(0, 1), 1), (pipe(0, 1), -5), (pipe(1, 0), -5)])

    def test_forbidden_pair_through_other_pipes(self):
        rows = nodes(0, 0, 0, 0) + [(forbid(0, 3), 1), (pipe(0, 1), 0), (pipe(2, 3), 1)]
        check(self, rows + [(pipe(1, 2), -5), (pipe(2, 1), -5), (pipe(0, 1), 2)])

    def test_forbidden_pair_through_an_open_valve(self):
        rows = nodes(0, 0, 0) + [(forbid(2, 0), 1), (valve(1, 0, 0), 0), (open_valve(0), 1)]
        check(self, rows + [(pipe(1, 2), -5), (shut(0), 1), (pipe(1, 2), 0)])

    def test_forbidden_pair_through_a_travelling_valve(self):
        rows = nodes(0, 0, 0) + [(forbid(0, 2), 1), (valve(0, 1, 2), 0), (open_valve(0), 1), (tick(2), 0)]
        rows += [(shut(0), 1), (pipe(1, 2), -5), (tick(), 0), (pipe(1, 2), -5), (tick(), 0), (pipe(1, 2), 0)]
        check(self, rows)

    def test_a_refused_pipe_is_not_there(self):
        rows = nodes(0, 0, 0) + [(forbid(0, 1), 1), (pipe(0, 1), -5), (allow(0, 1), 1)]
        check(self, rows + [(forbid(0, 1), 1), (pipe(1, 2), 0)])

    def test_joins_for_good(self):
        check(self, nodes(0, 0) + [(pipe(0, 1), 0), (shut_all(), 0), (tick(200), 0), (forbid(1, 0), -6)])


class ValveTest(unittest.TestCase):
    def test_numbers_in_order(self):
        check(self, nodes(0, 0) + [(valve(0, 1, 0), 0), (valve(0, 1, 60), 1), (valve(1, 0, 7), 2)])

    def test_travel_out_of_range(self):
        rows = nodes(0, 0) + [(valve(0, 1, travel), -1) for travel in (-1, 61, HUGE, -HUGE)]
        check(self, rows + [(valve(0, 1, 60), 0)])

    def test_no_such_node(self):
        rows = nodes(0, 0)
        for wrong in (-1, 2, HUGE, -HUGE):
            rows += [(valve(wrong, 0), -1), (valve(0, wrong), -1), (valve(wrong, wrong), -1)]
        check(self, rows)

    def test_same_node_after_the_ranges(self):
        check(self, nodes(0, 0) + [(valve(1, 1, 5), -3), (valve(1, 1, 61), -1), (valve(0, 1, 5), 0)])

    def test_at_most_48_and_the_order_of_refusals(self):
        rows = nodes(0, 0) + [(valve(0, 1, 1), k) for k in range(48)]
        rows += [(valve(0, 1, 1), -2), (valve(1, 1, 1), -3), (valve(0, 1, 61), -1), (valve(0, 2, 1), -1)]
        check(self, rows)

    def test_new_valve_is_down_and_joins_nothing(self):
        rows = nodes(0, 0) + [(valve(0, 1, 3), 0), (shut(0), 0), (tick(5), 0), (forbid(0, 1), 1)]
        check(self, rows)

    def test_may_lie_between_a_forbidden_pair(self):
        check(self, nodes(0, 0) + [(forbid(0, 1), 1), (valve(0, 1, 3), 0), (open_valve(0), -5)])


class ForbidTest(unittest.TestCase):
    def test_no_such_node(self):
        rows = nodes(0, 0)
        for wrong in (-1, 2, HUGE, -HUGE):
            rows += [(forbid(wrong, 0), -1), (forbid(0, wrong), -1), (forbid(wrong, wrong), -1)]
        check(self, rows)

    def test_same_node(self):
        check(self, nodes(0, 0) + [(forbid(1, 1), -3)])

    def test_already_forbidden_either_way_round(self):
        check(self, nodes(0, 0) + [(forbid(0, 1), 1), (forbid(0, 1), 0), (forbid(1, 0), 0)])

    def test_forbidden_again_is_kept_once(self):
        rows = nodes(0, 0) + [(forbid(0, 1), 1), (forbid(1, 0), 0), (forbid(0, 1), 0), (allow(0, 1), 1)]
        check(self, rows + [(allow(0, 1), 0), (allow(1, 0), 0)])

    def test_joined_nodes_through_pipes_and_valves(self):
        rows = nodes(0, 0, 0, 0) + [(pipe(1, 0), 0), (valve(2, 1, 4), 0), (forbid(0, 1), -6)]
        rows += [(open_valve(0), 1), (forbid(0, 2), -6), (forbid(2, 0), -6), (forbid(0, 3), 1)]
        check(self, rows)

    def test_24_pairs_are_taken_and_no_more(self):
        rows = full_of_pairs() + [(forbid(3, 4), -2), (forbid(1, 0), 0), (forbid(2, 1), 0)]
        rows += [(forbid(5, 5), -3), (forbid(5, 24), -1)]
        check(self, rows)

    def test_full_comes_before_joined(self):
        rows = full_of_pairs() + [(pipe(3, 4), 0), (forbid(3, 4), -2), (allow(2, 1), 1), (forbid(3, 4), -6)]
        check(self, rows + [(forbid(3, 5), 1), (forbid(6, 5), -2)])


class AllowTest(unittest.TestCase):
    def test_either_way_round(self):
        rows = nodes(0, 0) + [(forbid(0, 1), 1), (allow(1, 0), 1), (forbid(0, 1), 1), (allow(0, 1), 1)]
        check(self, rows + [(pipe(0, 1), 0)])

    def test_a_pair_that_is_not_forbidden(self):
        check(self, nodes(0, 0, 0) + [(forbid(0, 1), 1), (allow(0, 2), 0), (allow(1, 2), 0), (pipe(0, 1), -5)])

    def test_same_node(self):
        check(self, nodes(0, 0) + [(forbid(0, 1), 1), (allow(0, 0), 0), (allow(1, 1), 0), (forbid(0, 1), 0)])

    def test_no_such_node(self):
        rows = nodes(0, 0) + [(forbid(0, 1), 1)]
        for wrong in (-1, 2, HUGE, -HUGE):
            rows += [(allow(wrong, 0), -1), (allow(0, wrong), -1), (allow(wrong, wrong), -1)]
        check(self, rows + [(forbid(0, 1), 0)])

    def test_only_that_pair_is_allowed(self):
        rows = nodes(0, 0, 0) + [(forbid(0, 1), 1), (forbid(1, 2), 1), (forbid(0, 2), 1), (allow(2, 1), 1)]
        check(self, rows + [(pipe(1, 2), 0), (pipe(0, 1), -5), (pipe(0, 2), -5)])


class OpenTest(unittest.TestCase):
    def test_goes_up_once(self):
        check(self, nodes(0, 0) + [(valve(0, 1, 5), 0), (open_valve(0), 1), (open_valve(0), 0)])

    def test_no_such_valve(self):
        rows = nodes(0, 0) + [(open_valve(0), -1), (valve(0, 1), 0)]
        check(self, rows + [(open_valve(wrong), -1) for wrong in (-1, 1, HUGE, -HUGE)] + [(shut_all(), 0)])

    def test_counts_as_open_at_once(self):
        for travel in (0, 1, 60):
            rows = nodes(0, 0) + [(valve(0, 1, travel), 0), (open_valve(0), 1), (forbid(0, 1), -6)]
            check(self, rows)

    def test_refused_where_a_forbidden_pair_would_be_joined(self):
        rows = nodes(0, 0, 0, 0) + [(forbid(3, 0), 1), (pipe(0, 1), 0), (valve(1, 2), 0), (valve(3, 2), 1)]
        rows += [(open_valve(0), 1), (open_valve(1), -5), (shut(1), 0), (shut(0), 1), (open_valve(1), 1)]
        check(self, rows + [(open_valve(0), -5)])

    def test_refused_while_another_valve_travels_shut(self):
        rows = nodes(0, 0, 0) + [(forbid(0, 2), 1), (valve(0, 1, 3), 0), (valve(1, 2, 0), 1), (open_valve(0), 1)]
        rows += [(tick(2), 0), (shut(0), 1), (open_valve(1), -5), (tick(), 0), (open_valve(1), -5)]
        check(self, rows + [(tick(), 0), (open_valve(1), 1), (open_valve(0), -5)])

    def test_up_already_comes_before_all_else(self):
        rows = nodes(0, 0, 0) + [(valve(0, 1), 0), (valve(1, 2), 1), (open_valve(0), 1), (forbid(0, 2), 1)]
        check(self, rows + [(open_valve(1), -5), (open_valve(0), 0)])

    def test_again_while_it_travels_shut(self):
        rows = nodes(0, 0) + [(valve(0, 1, 9), 0), (open_valve(0), 1), (tick(4), 0), (shut(0), 1), (tick(), 0)]
        rows += [(open_valve(0), 1), (tick(), 0), (shut(0), 1), (tick(3), 0), (forbid(0, 1), -6)]
        check(self, rows + [(tick(), 0), (forbid(0, 1), 1)])


class ShutTest(unittest.TestCase):
    def test_goes_down_once(self):
        rows = nodes(0, 0) + [(valve(0, 1, 5), 0), (shut(0), 0), (open_valve(0), 1), (shut(0), 1), (shut(0), 0)]
        check(self, rows)

    def test_no_such_valve(self):
        rows = nodes(0, 0) + [(shut(0), -1), (valve(0, 1), 0), (open_valve(0), 1)]
        check(self, rows + [(shut(wrong), -1) for wrong in (-1, 1, HUGE, -HUGE)] + [(open_valve(0), 0)])

    def test_still_counts_as_open_until_its_place_is_0(self):
        rows = nodes(0, 0) + [(valve(0, 1, 3), 0), (open_valve(0), 1), (tick(50), 0), (shut(0), 1)]
        rows += [(forbid(0, 1), -6), (tick(2), 0), (forbid(0, 1), -6), (shut(0), 0), (tick(), 0), (forbid(0, 1), 1)]
        check(self, rows)

    def test_shut_before_it_moved(self):
        rows = nodes(0, 0) + [(valve(0, 1, 3), 0), (open_valve(0), 1), (shut(0), 1), (forbid(0, 1), 1)]
        check(self, rows)

    def test_a_place_does_not_go_below_0(self):
        rows = nodes(0, 0) + [(valve(0, 1, 3), 0), (tick(10), 0), (open_valve(0), 1), (tick(), 0), (shut(0), 1)]
        check(self, rows + [(forbid(0, 1), -6), (tick(), 0), (forbid(0, 1), 1)])

    def test_travel_0_counts_as_open_just_while_up(self):
        rows = nodes(0, 0) + [(valve(0, 1, 0), 0), (open_valve(0), 1), (tick(5), 0), (forbid(0, 1), -6)]
        check(self, rows + [(shut(0), 1), (forbid(0, 1), 1)])


class ShutAllTest(unittest.TestCase):
    def test_no_valves(self):
        check(self, [(shut_all(), 0)])

    def test_answers_how_many_were_up(self):
        rows = nodes(0, 0) + [(valve(0, 1, 2), k) for k in range(4)]
        rows += [(open_valve(k), 1) for k in (0, 1, 3)] + [(tick(), 0), (shut(1), 1), (shut_all(), 2)]
        rows += [(shut(k), 0) for k in range(4)]
        check(self, rows + [(shut_all(), 0)])

    def test_valves_still_travel(self):
        rows = nodes(0, 0) + [(valve(0, 1, 2), 0), (open_valve(0), 1), (tick(2), 0), (shut_all(), 1)]
        check(self, rows + [(forbid(0, 1), -6), (tick(2), 0), (forbid(0, 1), 1)])


if __name__ == "__main__":
    unittest.main()
