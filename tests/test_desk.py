"""The interface: how calls are read from one list, and how their answers are laid into another."""

import time
import unittest

from pumpnet.desk import answers
from tests.sheet import (
    ahead, allow, apart, bridges, clear, coils, flat, forbid, forbidden, islands, joined, ledger, node, open_valve,
    pipe, pulses, pump, pump_state, run, shut, shut_all, stop_all, tell_time, tick, valve, valve_state, way, would,
)

# How many numbers stand behind each call's place, as the interface tells them.
BEHIND = {
    0: 1, 1: 2, 2: 3, 3: 2, 4: 2, 5: 7, 6: 1, 7: 1, 8: 0, 9: 2, 10: 1, 11: 2, 12: 1, 13: 2, 14: 0, 15: 2, 16: 1,
    17: 0, 18: 1, 19: 1, 20: 2, 21: 1, 22: 0, 23: 0, 24: 0, 25: 0,
}

MIXED_CALLS = [
    node(1), node(0), node(2), pipe(0, 1), valve(1, 2, 2), forbid(0, 2), open_valve(0), would(0), forbidden(),
    allow(2, 0), open_valve(0), pump(0, 2), run(0, 10), tick(3), joined(0, 2), islands(), way(0, 2), bridges(),
    valve_state(0), shut(0), ahead(0, 4), coils(0), pulses(0, 1), pulses(0, 1), pump_state(0), clear(0), ledger(),
    run(0, -10), ahead(0, 4), stop_all(), shut_all(), tell_time(), node(4),
]
MIXED = flat(MIXED_CALLS)

# Nodes 22 and 23 are forbidden with others, and so stay by themselves; the last valve leads to 23.
GREATEST = (
    [node(3)] * 24
    + [pipe(k % 11, (k + 1 + k // 11) % 11) for k in range(48)]
    + [valve(10 + k % 11, 11 + k % 11, 60) for k in range(47)] + [valve(21, 23, 60)]
    + [forbid(23, k) for k in range(23)] + [forbid(22, 0)]
    + [pump(k, k + 10, 1000000, 1000000, 1, 64, 1000) for k in range(7)] + [pump(0, 1, 1, 1000000, 1000000, 64, 1000)]
    + [open_valve(v) for v in range(48)]
    + [run(k, 1000000) for k in range(7)] + [run(7, -1)]
    + [tick(200)] * 50 + [ahead(k, 10000) for k in range(8)] * 8 + [tick(200)] * 50
    + [bridges()] * 6 + [way(0, 21)] * 6 + [would(47)] * 6 + [islands(), forbidden(), ledger(), tell_time()]
    + [pump_state(7), coils(7), valve_state(46), joined(0, 21), stop_all(), shut_all()]
)


class DeskTest(unittest.TestCase):
    def test_each_answer_has_its_count_before_it(self):
        self.assertEqual({call[0] for call in MIXED_CALLS}, set(range(26)))
        self.assertEqual(answers(MIXED), [
            1, 0, 1, 1, 1, 2, 1, 0, 1, 0, 1, 1, 1, -5, 3, 1, 0, 2, 3, 1, 0, 2,
            1, 1, 1, 1, 1, 0, 1, 1, 1, 0, 1, 1, 4, 3, 0, 0, 0, 2, 1, 0, 2, 1, 0,
            6, 1, 1, 2, 2, 1, 2, 1, 1, 2, 0, 4, 1, 6, 2, 3, 0, 2, 0, 2, 7, 2, 0, 0, 0, 3, 0, 2, 1, 1, 4, 3, -3, 0, 3,
            1, 1, 2, 0, -4, 1, 1, 1, 0, 1, 3, 1, -1,
        ])

    def test_the_greatest_numbers_of_all_in_some_seconds(self):
        self.assertEqual(len(GREATEST), 400)
        before = time.monotonic()
        told = apart(answers(flat(GREATEST)))
        self.assertLess(time.monotonic() - before, 20)
        self.assertEqual(told[:24], [[k] for k in range(24)])
        self.assertEqual(told[24:120], [[k] for k in range(48)] * 2)
        self.assertEqual(told[120:144], [[1]] * 24)
        self.assertEqual(told[144:152], [[k] for k in range(8)])
        self.assertEqual(told[152:200], [[1]] * 47 + [[-5]])
        self.assertEqual(told[200:208], [[1]] * 8)
        # After 10000 ticks the speed is 10000, and goes on to 20000: 150005000 parts, with 5000 gathered.
        self.assertEqual(told[208:372], [[0]] * 50 + ([[0, 150]] * 7 + [[0, -10000]]) * 8 + [[0]] * 50)
        self.assertEqual(told[372:378], [[0]] * 6)
        self.assertEqual(told[378:384], [[11] + list(range(11))] * 6)
        self.assertEqual(told[384:390], [[22] + flat([23, k] for k in range(22))] * 6)
        self.assertEqual(told[390:394], [
            [24] + [0] * 22 + [22, 23], [24] + flat([23, k] for k in range(23)) + [22, 0],
            # Seven pumps are at 200, the eighth at -20000, each step moving 1000000.
            [24] + [k * 1000000 for k in [20000 - 200, -20000 - 200] + [-200] * 5 + [0] * 3 + [200] * 7 + [0] * 7],
            [20000]])
        self.assertEqual(told[394:], [
            [0, -1, -1, 0, -20000, 20000, 0], [1], [1, 1, 60, 60, 12, 13], [1], [8], [47]])

    def test_a_long_list_is_answered_the_same_twice_and_stays_as_it_was(self):
        calls = flat(GREATEST)
        first = answers(calls)
        self.assertEqual(calls, flat(GREATEST))
        self.assertEqual(answers(calls), first)
        self.assertEqual(calls, flat(GREATEST))

    def test_what_is_handed_in_is_the_same_afterwards(self):
        calls = list(MIXED)
        answers(calls)
        self.assertEqual(calls, MIXED)

    def test_nothing_is_kept_from_one_time_to_the_next(self):
        first = answers(MIXED)
        answers(flat([node(3), node(3), forbid(0, 1), pump(0, 1), tick(200)]))
        self.assertEqual(answers(MIXED), first)

    def test_answers_are_a_new_list_of_plain_whole_numbers(self):
        told = answers(MIXED)
        self.assertIs(type(told), list)
        self.assertEqual([number for number in told if type(number) is not int], [])
        self.assertIsNot(told, answers(MIXED))

    def test_each_of_the_26_calls_is_read_to_its_end(self):
        for place, behind in BEHIND.items():
            with self.subTest(place=place):
                told = apart(answers([9, 0, 0, place] + [-1] * behind + [9, 0, 0]))
                self.assertEqual(told, [[-1], [-1 if behind > 0 else 0], [-1]])

    def test_each_of_the_26_calls_takes_the_widest_numbers(self):
        for place, behind in BEHIND.items():
            for number in (10 ** 18, -10 ** 18):
                with self.subTest(place=place, number=number):
                    calls = [node(3), node(3), valve(0, 1), pump(0, 1), [place] + [number] * behind]
                    told = apart(answers(flat(calls)))
                    self.assertEqual(told[:4], [[0], [1], [0], [0]])
                    self.assertEqual(behind == 0, told[4] != [-1])

    def test_400_calls(self):
        calls = flat([node(3), node(3), pump(0, 1)] + [run(0, 10), tick(50)] * 198 + [pulses(0, 9900)])
        self.assertEqual(apart(answers(calls))[-1], [9900, 0])


if __name__ == "__main__":
    unittest.main()
