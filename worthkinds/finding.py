"""A worth that is found by answers of yes and no."""

from worthkinds.counting import count_of, how_many, worth_at
from worthkinds.errors import Ended
from worthkinds.kinds import need_kind


def most_asks(kind):
    # An answer is worth one binary figure of the sought number, and the last number has the most figures.
    return (how_many(kind) - 1).bit_length()


class Finder:
    def __init__(self, kind):
        need_kind(kind)
        self.kind = kind
        self.first = 0
        self.last = count_of(kind) - 1
        self.answered = 0

    def left(self):
        return self.last - self.first + 1

    def ask(self):
        if self.left() == 1:
            raise Ended("it can be one worth alone")
        # Two halves that differ by one worth at most: no other number needs fewer asks at worst.
        return self.first + self.left() // 2

    def answer(self, is_less):
        asked = self.ask()
        if is_less:
            self.last = asked - 1
        else:
            self.first = asked
        self.answered = self.answered + 1

    def found(self):
        if self.left() > 1:
            return None
        return worth_at(self.kind, self.first)

    def asks(self):
        return self.answered
