"""A valve between two nodes."""


class Valve:
    def __init__(self, a, b, travel):
        self.a = a
        self.b = b
        self.travel = travel
        self.place = 0
        self.up = False

    def counts_as_open(self):
        return self.up or self.place > 0

    def move(self):
        if self.up:
            self.place = min(self.place + 1, self.travel)
        else:
            self.place = max(self.place - 1, 0)
