"""The interface: how calls are read from one list, and how their answers are laid into another."""

import unittest

from pumpnet.desk import answers
from tests.sheet import (
    apart, clear, flat, forbid, node, open_valve, pipe, pulses, pump, run, shut_all, tick, valve,
)

# How many numbers stand behind each call's place, as the interface tells them.
BEHIND = {
    0: 1, 1: 2, 2: 3, 3: 2, 4: 2, 5: 7, 6: 1, 7: 1, 8: 0, 9: 2, 10: 1, 11: 2, 12: 1, 13: 2, 14: 0, 15: 2, 16: 1,
    17: 0, 18: 1, 19: 1, 20: 2, 21: 1, 22: 0, 23: 0, 24: 0, 25: 0,
}

MIXED = flat([
    node(1), node(0), node(2), pipe(0, 1), valve(1, 2, 2), forbid(0, 2), open_valve(0), pump(0, 2), run(0, 10),
    tick(3), pulses(0, 1), pulses(0, 1), clear(0), shut_all(),
])


class DeskTest(unittest.TestCase):
    def test_each_answer_has_its_count_before_it(self):
        told = answers(MIXED)
        self.assertEqual(
            told,
            [1, 0, 1, 1, 1, 2, 1, 0, 1, 0, 1, 1, 1, -5, 1, 0, 1, 1, 1, 0, 2, 3, 0, 2, 0, 2, 1, 1, 1, 0])

    def test_what_is_handed_in_is_the_same_afterwards(self):
        calls = list(MIXED)
        answers(calls)
        self.assertEqual(calls, MIXED)

    def test_nothing_is_kept_from_one_time_to_the_next(self):
        first = answers(MIXED)
        answers(flat([node(3), node(3), forbid(0, 1), pump(0, 1), tick(200)]))
        self.assertEqual(answers(MIXED), first)

    def test_answers_are_a_new_list_of_plain_whole_numbers(self):
        told = answers(MIXED)
        self.assertIs(type(told), list)
        self.assertEqual([number for number in told if type(number) is not int], [])
        self.assertIsNot(told, answers(MIXED))

    def test_each_of_the_26_calls_is_read_to_its_end(self):
        for place, behind in BEHIND.items():
            with self.subTest(place=place):
                told = apart(answers([9, 0, 0, place] + [-1] * behind + [9, 0, 0]))
                self.assertEqual(len(told), 3)
                self.assertEqual((told[0], told[2]), ([-1], [-1]))

    def test_400_calls(self):
        calls = flat([node(3), node(3), pump(0, 1)] + [run(0, 10), tick(50)] * 198 + [pulses(0, 9900)])
        self.assertEqual(apart(answers(calls))[-1], [9900, 0])


if __name__ == "__main__":
    unittest.main()
