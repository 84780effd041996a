"""Two copies of a FLOW that go through two lists: their STANDINGS, and the steps from one to the next ones."""

from onlyalike.flows import ended, turned
from onlyalike.machines import kept_things

# The number that stands for a copy that has ended, by its VERDICT.
ENDED = {"yes": -1, "no": -2}


class Copies:
    """Two copies of a FLOW, and where they stand, THINGS by any names that are numbers.

    A side is a pair of the number of a PLACE, or of an end, and what is held there. Where they stand is a pair: both
    sides, and what each of both has told that the other one has not. A step is a pair of an item, or None, for each.
    """

    def __init__(self, flow, in_sum):
        self.words = flow[0]
        self.places = flow[1]
        self.in_sum = in_sum

    def moved(self, side, item):
        """What a side tells at an item, and the side behind it."""
        row, number, held = turned(self.words, self.places[side[0]], side[1], item)
        return row, (number, held)

    def shut(self, side):
        """What a side tells at its end, and the side behind it."""
        verdict, row = ended(self.places[side[0]], side[1])
        return row, (ENDED[verdict], [])

    def unmatched(self, row, other_row):
        """What each of both has told that the other one has not; None if they have told unlike things."""
        if not self.in_sum:
            return ((), ()) if row == other_row else None
        many = min(len(row), len(other_row))
        return (row[many:], other_row[many:]) if row[:many] == other_row[:many] else None

    def met_by(self, steps):
        """Of steps, each with both rows and sides behind it, those that can be, and where one stands behind them."""
        out = []
        for step, rows, sides in steps:
            left = self.unmatched(rows[0], rows[1])
            if left is not None:
                out.append((step, (sides, left)))
        return out

    def steps_of_both(self, sides, items, fresh):
        """All steps by an item of each of both; fresh stands for a new thing, and the next number for a second one."""
        moves = [(item, *self.moved(sides[0], item)) for item in [*items, fresh]]
        others = [(item, *self.moved(sides[1], item)) for item in [*items, fresh, fresh + 1]]
        return [((item, other), (row, other_row), (side, other_side))
                for item, row, side in moves for other, other_row, other_side in others
                if other != fresh + 1 or item == fresh]

    def names_at(self, standing):
        """The names of all THINGS where the copies stand, in the order in which they are numbered."""
        (side, other_side), (row, other_row) = standing
        return kept_things(self.words, [*side[1], *other_side[1], *row, *other_row])

    def partings(self, number, held, fresh):
        """The steps by which the copies part at a PLACE where both hold the same, and where they stand behind them."""
        side = (number, held)
        steps = [parts for parts in self.steps_of_both((side, side), [*self.words, *held], fresh)
                 if parts[0][0] != parts[0][1]]
        if self.in_sum:
            row, shut = self.shut(side)
            for item in [*self.words, *held, fresh]:
                other_row, other_side = self.moved(side, item)
                steps.append(((None, item), (row, other_row), (shut, other_side)))
        return self.met_by(steps)

    def turn_of(self, standing):
        """The number of the copy that has to step, or None if nothing more comes."""
        sides, (row, other_row) = standing
        at = 1 if len(row) > 0 or (len(other_row) == 0 and sides[0][0] < 0) else 0
        return at if sides[at][0] >= 0 else None

    def steps_of_one(self, standing, at, fresh):
        """All steps of one of both, by an item or its end."""
        sides, rows = standing
        moves = [(item, *self.moved(sides[at], item)) for item in [*self.words, *self.names_at(standing), fresh]]
        out = []
        for item, told, behind in [*moves, (None, *self.shut(sides[at]))]:
            if at == 0:
                out.append(((item, None), (rows[0] + told, rows[1]), (behind, sides[1])))
            else:
                out.append(((None, item), (rows[0], rows[1] + told), (sides[0], behind)))
        return out

    def behind(self, standing, fresh):
        """The steps from where the copies stand, and where they stand behind them; fresh stands for a new thing."""
        sides, _ = standing
        if self.in_sum:
            at = self.turn_of(standing)
            return [] if at is None else self.met_by(self.steps_of_one(standing, at, fresh))
        if sides[0][0] < 0:
            return []
        row, shut = self.shut(sides[0])
        other_row, other_shut = self.shut(sides[1])
        steps = self.steps_of_both(sides, [*self.words, *self.names_at(standing)], fresh)
        return self.met_by([*steps, ((None, None), (row, other_row), (shut, other_shut))])

    def packed(self, standing):
        """The STANDING of where the copies stand."""
        names = self.names_at(standing)
        (side, other_side), (row, other_row) = standing
        told = [-1 - self.words.index(part) if isinstance(part, str) else names.index(part)
                for part in (*row, *other_row)]
        held = tuple([names.index(part) for part in side[1]]), tuple([names.index(part) for part in other_side[1]])
        return side[0], other_side[0], held, (1 if len(other_row) > 0 else 0, tuple(told))

    def unpacked(self, packed):
        """Where the copies stand, by the numbers of a STANDING."""
        first, second, (held, other_held), (who, told) = packed
        row = tuple([self.words[-1 - part] if part < 0 else part for part in told])
        return ((first, held), (second, other_held)), ((), row) if who == 1 else (row, ())
