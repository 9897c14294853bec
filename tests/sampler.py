"""Functions and arrays without a pattern, for holding the program's answers against the model's."""

import model
from calls import counted
from texts import BASES, MODIFIERS

ONE_MODIFIERS = (":table", ":at 0", ":at 1", ":at 1", ":at 2", ":at 3", ":at 4", ":at 5")


class Sampler:
    """What it chooses is the same whenever the tests are run."""

    def __init__(self):
        self.state = 1

    def choose(self, things):
        self.state = self.state * 6364136223846793005 + 1442695040888963407 & (1 << 64) - 1
        return things[(self.state >> 33) % len(things)]

    def filled(self, shape, numbers):
        return shape, [self.choose(numbers) for _ in counted(shape)]

    def array(self):
        shape = [self.choose((0, 1, 1, 2, 2, 2, 3)) for _ in range(self.choose((0, 1, 1, 2, 2, 3, 3, 4, 5)))]
        return self.filled(shape, (-2, -1, 0, 0, 1, 1, 2, 3))

    def arrays(self):
        """Two, of which mostly one's shape begins or ends as the other's."""
        shape = self.array()[0]
        part = self.choose(range(len(shape) + 1))
        other = self.choose((shape, shape[:part], shape[part:], shape[part:], self.array()[0]))
        numbers = self.choose(((-2, -1, 0, 0, 1, 1, 2, 3), (0, 1), (1, 2), (0, 1, 1, 2)))
        pair = [self.filled(shape, numbers), self.filled(other, numbers)]
        return pair if self.choose((True, False)) else pair[::-1]

    def function(self):
        """One that may be used with one operand, mostly with few modifiers."""
        base = self.choose(BASES)
        count = self.choose((0, 1, 2, 2, 3, 3, 4, 4, 5, 7))
        if model.uses([base]) == {1}:
            return [base] + [self.choose(ONE_MODIFIERS) for _ in range(count)]
        below = [base] + [self.choose(MODIFIERS) for _ in range(count)]
        return below if 1 in model.uses(below) else below + [self.choose((":fold", ":scan", ":swap"))]

    def function_of_two(self):
        """One that may be used with two operands."""
        base = self.choose([base for base in BASES if 2 in model.uses([base])])
        return [base] + [self.choose(MODIFIERS) for _ in range(self.choose((0, 0, 1, 1, 2, 2, 3, 4)))]
