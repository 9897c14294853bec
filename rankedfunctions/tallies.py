"""Tallies: how often a base function was worked."""


class Tally:
    """Handed down through a working, which adds one for each time that the base function is worked."""

    def __init__(self):
        self.worked = 0

    def add_one(self):
        self.worked = self.worked + 1
