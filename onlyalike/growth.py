"""The PLACES of a FLOW that tells what a program tells, found by going through all that it can keep."""

from onlyalike.errors import TooMany
from onlyalike.machines import holds_of, kept_things

MOST_PLACES = 300
MOST_ROW = 81


def items_of(words, holds):
    """An item of each KIND where this is held, the one of NEW being the number behind those of the THINGS."""
    return [*words, *list(range(len(kept_things(words, holds)) + 1))]


class Program:
    """What goes through lists over WORDS: by a label, and by what it holds, a tuple of THINGS, None where it has none.

    It only asks what is alike, so THINGS may stand there by any names.
    """

    def __init__(self, words, label, held):
        self.words = words
        self.first = (label, held)

    def step(self, label, held, item):
        """What is told at an item, and the label and what is held behind it."""
        return (), label, held

    def end(self, label, held):
        """VERDICT and row of a list that ends here."""
        return "yes", ()


class Growth:
    """The PATTERNS of a program, pairs of a label and HOLDS, as one first meets them, and their PLACES."""

    def __init__(self, program, most):
        self.words = program.words
        self.source = program
        self.most = most
        self.patterns = [program.first]
        self.numbers = {program.first: 0}

    def number_of(self, pattern):
        """The number of the PLACE of a PATTERN, which may be a new one."""
        if pattern not in self.numbers:
            if len(self.patterns) == self.most:
                raise TooMany(MOST_PLACES)
            self.numbers[pattern] = len(self.patterns)
            self.patterns.append(pattern)
        return self.numbers[pattern]

    def turn_at(self, pattern, item, new):
        """The TURN for an item, new being the number behind those of the THINGS."""
        row, label, held = self.source.step(pattern[0], pattern[1], item)
        number = self.number_of((label, holds_of(self.words, held)))
        # What is too long a row is seen by one part too many.
        told = tuple([None if part == new else part for part in row[:MOST_ROW + 1]])
        return told, number, tuple([None if part == new else part for part in kept_things(self.words, held)])

    def place_at(self, pattern):
        """The PLACE of a PATTERN."""
        many = len(kept_things(self.words, pattern[1]))
        turns = tuple([self.turn_at(pattern, item, many) for item in items_of(self.words, pattern[1])])
        verdict, row = self.source.end(pattern[0], pattern[1])
        return many, turns, (verdict, row[:MOST_ROW + 1])

    def all_places(self):
        """The PLACES of all PATTERNS."""
        places = []
        while len(places) < len(self.patterns):
            places.append(self.place_at(self.patterns[len(places)]))
        return tuple(places)
