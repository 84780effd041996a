"""Which THINGS of the PLACES of a FLOW are NEEDED, found from what is told on backwards as far as that goes."""

from onlyalike.errors import TooMany
from onlyalike.joints import Joints
from onlyalike.search import MOST_MET

MOST_NEEDED = 5
# So many JOINTS are looked at for each THING ahead of looking at all for any: where something is told soon, this is
# seen at once, and so it is known of all that come there later on.
FEW_MET = 10


class Needs:
    """The NEEDED THINGS of a FLOW, as pairs of a PLACE and a THING; what is learned is kept."""

    def __init__(self, flow):
        self.words = flow[0]
        self.places = flow[1]
        self.joints = Joints(flow, flow)
        # True of what is NEEDED, False of what is known not to be.
        self.known = {}
        # For each pair that was looked at those from which one comes to it.
        self.sources = {}

    def turns_apart(self, pair):
        """The TURNS of a PLACE, but that for an item that is like the THING."""
        p, thing = pair
        own = len(self.words) + thing
        return [turn for at, turn in enumerate(self.places[p][1]) if at != own]

    def carried(self, pair):
        """The pairs of where the THING is behind an item that is not like it."""
        thing = pair[1]
        turns = self.turns_apart(pair)
        return [(following, origins.index(thing)) for _, following, origins in turns if thing in origins]

    def is_told(self, pair):
        """Whether the THING is told at the end, or at an item that is not like it."""
        p, thing = pair
        return thing in self.places[p][2][1] or any([thing in row for row, _, _ in self.turns_apart(pair)])

    def do_part(self, pair, most):
        """Whether it is told from then on whether an item is like the THING; TooMany of more JOINTS than most."""
        p, thing = pair
        joint = (p, p, tuple([(at, at) for at in range(self.places[p][0]) if at != thing]))
        behind = self.joints.joint_behind(joint, self.joints.holds_at(joint), thing)
        return behind is None or not self.joints.is_fine(behind, most)

    def do_part_soon(self, pair):
        """Whether this is seen by few JOINTS."""
        try:
            return self.do_part(pair, FEW_MET)
        except TooMany:
            return False

    def mark(self, pair):
        """Note that a THING is NEEDED, and with it all that it comes from."""
        order = [pair]
        while len(order) > 0:
            one = order.pop()
            if one not in self.known:
                self.known[one] = True
                order.extend(self.sources[one])

    def gather(self, starts):
        """All pairs, looked at for the first time, to which one comes from some."""
        order = []
        waiting = list(starts)
        while len(waiting) > 0:
            pair = waiting.pop()
            if pair not in self.sources:
                self.sources[pair] = []
                order.append(pair)
                waiting.extend(self.carried(pair))
        for pair in order:
            for following in self.carried(pair):
                self.sources[following].append(pair)
        return order

    def look_at(self, starts):
        """Look at pairs, and at all to which one comes from them, as far as one soon sees what is NEEDED."""
        fresh = self.gather(starts)
        for pair in fresh:
            if self.is_told(pair) or any([self.known.get(following, False) for following in self.carried(pair)]):
                self.mark(pair)
        for pair in fresh:
            if pair not in self.known and self.do_part_soon(pair):
                self.mark(pair)

    def settle(self, start):
        """Find out whether a pair is NEEDED; TooMany if too many JOINTS have to be looked at."""
        order = [start]
        seen = {start: True}
        at = 0
        while at < len(order) and start not in self.known:
            pair = order[at]
            if pair not in self.known:
                if self.do_part(pair, MOST_MET):
                    self.mark(pair)
                for following in self.carried(pair):
                    if following not in seen:
                        seen[following] = True
                        order.append(following)
            at += 1
        if start not in self.known:
            for pair in order:
                self.known[pair] = False

    def things_at(self, p):
        """The numbers of the THINGS that are NEEDED at a PLACE."""
        things = list(range(self.places[p][0]))
        self.look_at([(p, thing) for thing in things])
        for thing in things:
            self.settle((p, thing))
        return [thing for thing in things if self.known[(p, thing)]]

    def few_at(self, p):
        """The same; TooMany if they are too many to be put in all orders."""
        needed = self.things_at(p)
        if len(needed) > MOST_NEEDED:
            raise TooMany(MOST_NEEDED)
        return needed
