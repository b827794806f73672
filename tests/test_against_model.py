"""Many made-up lists of calls, answered by the program and by the plain model alike."""

import random
import unittest

from tests.model import Model
from tests.sheet import ask

LISTS = 250
WEIGHTS = {0: 2, 1: 4, 2: 10, 3: 8, 4: 2, 5: 4, 6: 30, 7: 12, 8: 1, 9: 16, 10: 24, 11: 14, 12: 10}


class Maker:
    """Makes calls that mostly name things that are there."""

    def __init__(self, seed, model):
        self.random = random.Random(seed)
        self.model = model

    def one_of(self, there):
        if self.random.random() < 0.03:
            return self.random.choice((-1, len(there), 10 ** 18, -10 ** 18))
        return self.random.randrange(max(1, len(there)))

    def pair(self):
        return [self.one_of(self.model.flags), self.one_of(self.model.flags)]

    def sizes(self):
        return [self.random.choice(choice) for choice in (
            (1, 2, 5, 10, 1000), (1, 7), (1, 3, 1000000), (1, 2, 3, 64), (0, 1, 1, 1000, 1001))]

    def target(self, p):
        den = self.model.pumps[p]["den"] if 0 <= p < len(self.model.pumps) else 1
        return self.random.choice((-den - 1, -den, -den // 2, 0, den // 3, den // 2, den, den, den, den + 1))

    def seen(self, p):
        if not 0 <= p < len(self.model.pumps):
            return 0
        expected = self.model.pumps[p]["moved"] // self.model.pumps[p]["per"]
        return expected + self.random.choice((0, 0, 0, 1, -1, 2, -2))

    def call(self):
        place = self.random.choices(list(WEIGHTS), list(WEIGHTS.values()))[0]
        if place == 0:
            return [0, self.random.choice((0, 1, 2, 3, 3, 4, -1))]
        if place in (1, 3, 4):
            return [place] + self.pair()
        if place == 2:
            return [2] + self.pair() + [self.random.choice((0, 1, 2, 3, 5, 60, 61))]
        if place == 5:
            return [5] + self.pair() + self.sizes()
        if place in (6, 7):
            return [place, self.one_of(self.model.valves)]
        if place == 8:
            return [8]
        if place == 10:
            return [10, self.random.choice((0, 1, 1, 1, 2, 2, 3, 5, 9))]
        p = self.one_of(self.model.pumps)
        return {9: [9, p, self.target(p)], 11: [11, p, self.seen(p)], 12: [12, p]}[place]


class AgainstModelTest(unittest.TestCase):
    def test_same_answers(self):
        for seed in range(LISTS):
            with self.subTest(seed=seed):
                self.one_list(seed)

    def one_list(self, seed):
        model = Model()
        maker = Maker(seed, model)
        calls, wanted = [[0, 1], [0, 2], [0, 3], [0, 0], [0, 0]], []
        for call in calls:
            wanted.append(model.answer(call))
        while len(calls) < 150:
            calls.append(maker.call())
            wanted.append(model.answer(calls[-1]))
            self.assertFalse(model.breaks(), f"a forbidden pair is joined by {calls[-1]}")
        told = ask(calls)
        for k, call in enumerate(calls):
            self.assertEqual(told[k], wanted[k], f"call {k}: {call}")


if __name__ == "__main__":
    unittest.main()
