"""A stepping pump between two nodes."""

NOTHING_FLOWS = 1
SLIPPED = 2


class Pump:
    def __init__(self, a, b, den, stroke, slope, per, tol):
        self.a = a
        self.b = b
        self.den = den
        self.stroke = stroke
        self.slope = slope
        self.per = per
        self.tol = tol
        self.target = 0
        self.speed = 0
        self.gathered = 0
        self.position = 0
        self.moved = 0
        self.bad = 0
        self.fault = 0

    def next_speed(self):
        if self.target > self.speed:
            return min(self.speed + self.slope, self.target)
        return max(self.speed - self.slope, self.target)

    def can_go(self, speed, flow):
        if speed > 0:
            return flow.passes(self.a, self.b)
        if speed < 0:
            return flow.passes(self.b, self.a)
        return True

    def fail(self, fault):
        self.target = 0
        self.speed = 0
        self.fault = fault

    def gather(self):
        # The speed is never beyond den, so one step a tick is all that can be due.
        self.gathered += self.speed
        if self.gathered >= self.den:
            self.step(1)
        elif self.gathered <= -self.den:
            self.step(-1)

    def step(self, direction):
        self.gathered -= direction * self.den
        self.position += direction
        self.moved += 1

    def go_at(self, speed):
        self.speed = speed
        self.gather()

    def tick(self, flow):
        if self.fault != 0:
            return
        speed = self.next_speed()
        if self.can_go(speed, flow):
            self.go_at(speed)
        else:
            self.fail(NOTHING_FLOWS)

    # By how much the position would change if fluid could flow; tried out on another pump, so that this one stays.
    def ahead(self, ticks):
        if self.fault != 0:
            return 0
        trial = Pump(self.a, self.b, self.den, self.stroke, self.slope, self.per, self.tol)
        trial.target = self.target
        trial.speed = self.speed
        trial.gathered = self.gathered
        for k in range(ticks):
            trial.go_at(trial.next_speed())
        return trial.position

    # Answers how many pulses were expected.
    def take_pulses(self, seen):
        expected = self.moved // self.per
        self.moved = self.moved % self.per
        if self.fault == 0:
            self.judge(abs(seen - expected) > self.tol)
        return expected

    def judge(self, astray):
        if not astray:
            self.bad = 0
        elif self.bad == 0:
            self.bad = 1
        else:
            self.bad = 2
            self.fail(SLIPPED)

    def clear_fault(self):
        self.fault = 0
        self.bad = 0
