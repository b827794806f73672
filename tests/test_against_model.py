"""Many made-up lists of calls, answered by the program and by the plain model alike."""

import random
import unittest

from tests.model import Model
from tests.sheet import ask

LISTS = 250
WEIGHTS = {
    0: 2, 1: 4, 2: 10, 3: 8, 4: 2, 5: 4, 6: 30, 7: 12, 8: 1, 9: 16, 10: 24, 11: 14, 12: 10, 13: 3, 14: 2, 15: 8, 16: 6,
    17: 4, 18: 6, 19: 10, 20: 6, 21: 4, 22: 2, 23: 1, 24: 1, 25: 1,
}
NETS = 120


class Maker:
    """Makes calls that mostly name things that are there."""

    def __init__(self, seed, model):
        self.random = random.Random(seed)
        self.model = model

    def one_of(self, there):
        if self.random.random() < 0.03:
            return self.random.choice((-1, len(there), 10 ** 18, -10 ** 18))
        return self.random.randrange(max(1, len(there)))

    def pair(self):
        return [self.one_of(self.model.flags), self.one_of(self.model.flags)]

    def sizes(self):
        return [self.random.choice(choice) for choice in (
            (1, 2, 5, 10, 1000), (1, 7), (1, 3, 1000000), (1, 2, 3, 64), (0, 1, 1, 1000, 1001))]

    def target(self, p):
        den = self.model.pumps[p]["den"] if 0 <= p < len(self.model.pumps) else 1
        return self.random.choice((-den - 1, -den, -den // 2, 0, den // 3, den // 2, den, den, den, den + 1))

    def seen(self, p):
        if not 0 <= p < len(self.model.pumps):
            return 0
        expected = self.model.pumps[p]["moved"] // self.model.pumps[p]["per"]
        return expected + self.random.choice((0, 0, 0, 1, -1, 2, -2))

    def call(self):
        place = self.random.choices(list(WEIGHTS), list(WEIGHTS.values()))[0]
        if place == 0:
            return [0, self.random.choice((0, 1, 2, 3, 3, 4, -1))]
        if place in (1, 3, 4, 13, 15):
            return [place] + self.pair()
        if place == 2:
            return [2] + self.pair() + [self.random.choice((0, 1, 2, 3, 5, 60, 61))]
        if place == 5:
            return [5] + self.pair() + self.sizes()
        if place in (6, 7, 16, 18):
            return [place, self.one_of(self.model.valves)]
        if place in (8, 14, 17, 22, 23, 24, 25):
            return [place]
        if place == 10:
            return [10, self.random.choice((0, 1, 1, 1, 2, 2, 3, 5, 9))]
        return [place] + self.of_a_pump(place)

    def of_a_pump(self, place):
        p = self.one_of(self.model.pumps)
        if place == 9:
            return [p, self.target(p)]
        if place == 11:
            return [p, self.seen(p)]
        if place == 20:
            return [p, self.random.choice((-1, 0, 1, 2, 3, 7, 20, 150, 10001))]
        return [p]

    def net(self):
        """Links between ten nodes, some of the valves open, some of them on their way to be shut."""
        calls = [[0, 0]] * 10
        for place, count in ((1, self.random.randrange(6)), (2, 20)):
            for _ in range(count):
                a, b = self.random.sample(range(10), 2)
                calls.append([1, a, b] if place == 1 else [2, a, b, self.random.choice((0, 1, 4))])
        calls += [[3] + self.random.sample(range(10), 2) for _ in range(self.random.randrange(8))]
        calls += [[6, v] for v in self.random.sample(range(20), self.random.randrange(8, 20))]
        calls += [[10, 3]] + [[7, v] for v in self.random.sample(range(20), 6)] + [[10, 1]]
        return calls


def questions(model):
    """All that can be asked of what there is."""
    every = range(len(model.flags))
    calls = [[14], [17], [22], [24], [25]]
    calls += [[place, v] for v in range(len(model.valves)) for place in (16, 18)]
    calls += [[place, p] for p in range(len(model.pumps)) for place in (19, 21)]
    return calls + [[place, a, b] for a in every for b in every for place in (13, 15)]


class AgainstModelTest(unittest.TestCase):
    def test_same_answers(self):
        for seed in range(LISTS):
            with self.subTest(seed=seed):
                model = Model()
                maker = Maker(seed, model)
                calls = [[0, 1], [0, 2], [0, 3], [0, 0], [0, 0]]
                wanted = [model.answer(call) for call in calls]
                while len(calls) < 150:
                    calls.append(maker.call())
                    wanted.append(model.answer(calls[-1]))
                    self.assertFalse(model.breaks(), f"a forbidden pair is joined by {calls[-1]}")
                self.same(calls + questions(model), wanted, model)

    def test_same_ways_and_bridges(self):
        for seed in range(NETS):
            with self.subTest(seed=seed):
                model = Model()
                calls = Maker(seed, model).net()
                wanted = [model.answer(call) for call in calls]
                self.same(calls + questions(model), wanted, model)

    def same(self, calls, wanted, model):
        wanted += [model.answer(call) for call in calls[len(wanted):]]
        told = ask(calls)
        for k, call in enumerate(calls):
            self.assertEqual(told[k], wanted[k], f"call {k}: {call}")


if __name__ == "__main__":
    unittest.main()
