"""The CLASSES of the PLACES of a FLOW that are MET, and a FLOW without what is not NEEDED."""

from onlyalike.equal import one_to_one
from onlyalike.flows import ways_met
from onlyalike.joints import Joints
from onlyalike.needs import Needs


def mark_of(row, own):
    """What a row tells, by marks that are no words: 1 for the THING told by own, 0 for any other one."""
    return tuple([part if isinstance(part, str) else "1" if part == own else "0" for part in row])


def shown_at(flow, p):
    """The marks of the END of a PLACE, and for each TURN the marks of its row and the next PLACE."""
    words = flow[0]
    many, turns, end = flow[1][p]
    shown = []
    for at, (row, following, _) in enumerate(turns):
        own = at - len(words) if len(words) <= at < len(words) + many else None
        shown.append((mark_of(row, own), following))
    return (end[0], mark_of(end[1], None)), shown


def numbered_marks(flow):
    """The same for all PLACES, with a number in the place of all marks that are the same."""
    numbers = {}
    out = []
    for p in range(len(flow[1])):
        end, shown = shown_at(flow, p)
        turns = [(numbers.setdefault(mark, len(numbers)), following) for mark, following in shown]
        out.append((numbers.setdefault(end, len(numbers)), turns))
    return out


def sign_of(count, marks, colors):
    """What a PLACE shows that all of its CLASS show, if all PLACES of one CLASS have one color."""
    end, turns = marks
    shown = [(mark, colors[following]) for mark, following in turns]
    # What is not NEEDED shows the same as NEW, so this is left out; and THINGS may stand in any order.
    things = sorted([sign for sign in shown[count:-1] if sign != shown[-1]])
    return end, tuple(shown[:count]), shown[-1], tuple(things)


def colors_of(flow):
    """A number for each PLACE, the same one for all PLACES of one CLASS (and perhaps for others)."""
    marks = numbered_marks(flow)
    many = 1
    colors = [0] * len(marks)
    while True:
        numbers = {}
        signs = [(colors[p], sign_of(len(flow[0]), shown, colors)) for p, shown in enumerate(marks)]
        colors = [numbers.setdefault(sign, len(numbers)) for sign in signs]
        if len(numbers) == many:
            return colors
        many = len(numbers)


def slim_turn(turn, own, kept):
    """A TURN of a PLACE where own are the THINGS that are kept; kept tells these, and its new number, of each PLACE."""
    row, following, origins = turn
    number, things = kept[following]
    told = tuple([own.index(part) if isinstance(part, int) else part for part in row])
    sources = [origins[thing] for thing in things]
    return told, number, tuple([None if source is None else own.index(source) for source in sources])


def slim_flow(flow, order, needed):
    """A FLOW with these PLACES alone, in this order, and with these THINGS of them alone."""
    words, places = flow
    kept = {p: (number, needed[number]) for number, p in enumerate(order)}
    out = []
    for number, p in enumerate(order):
        own = needed[number]
        many, turns, end = places[p]
        left = [*turns[:len(words)], *[turns[len(words) + thing] for thing in own], turns[len(words) + many]]
        row = tuple([own.index(part) if isinstance(part, int) else part for part in end[1]])
        out.append((len(own), tuple([slim_turn(turn, own, kept) for turn in left]), (end[0], row)))
    return words, tuple(out)


class Full(Joints):
    """A FLOW all of whose THINGS are NEEDED, beside itself: a JOINT that leaves a THING alone cannot be GOOD."""

    def joint_behind(self, joint, holds, item):
        """The JOINT to which one comes by an item; None if it cannot be GOOD."""
        following = super().joint_behind(joint, holds, item)
        if following is None:
            return None
        p, q, link = following
        is_full = len(link) == self.places[p][0] and len(link) == self.places[q][0]
        return following if is_full else None


class Classes:
    """The PLACES of a FLOW that are MET, as they are met, with their NEEDED THINGS alone; and their CLASSES.

    TooMany if more THINGS are NEEDED at one of them than can be put in all orders.
    """

    def __init__(self, flow):
        needs = Needs(flow)
        # The numbers that the PLACES, and the THINGS of each, have in the FLOW.
        self.order = list(ways_met(flow))
        self.needed = [needs.few_at(p) for p in self.order]
        self.flow = slim_flow(flow, self.order, self.needed)
        self.joints = Full(self.flow, self.flow)
        # For each PLACE the one of its CLASS that is met first, and the THING of that for each of its own.
        self.firsts = []
        self.images = []
        self.find_firsts()

    def orders_of(self, p):
        """All ways to put as many THINGS as a PLACE has one to one, as LINKS."""
        many = list(range(self.flow[1][p][0]))
        return one_to_one(many, many)

    def image_in(self, p, q):
        """The THING of q for each THING of p by some MATCH, or None if there is none."""
        if self.flow[1][p][0] != self.flow[1][q][0]:
            return None
        for link in self.orders_of(p):
            if self.joints.is_fine((p, q, link)):
                return [second for _, second in link]
        return None

    def own_images(self, p):
        """The same by all MATCHES of a PLACE with itself."""
        links = [link for link in self.orders_of(p) if self.joints.is_fine((p, p, link))]
        return [[second for _, second in link] for link in links]

    def first_with(self, p, firsts):
        """The first of these PLACES that is of one CLASS with another one, and the image in it; or None."""
        for q in firsts:
            image = self.image_in(p, q)
            if image is not None:
                return q, image
        return None

    def find_firsts(self):
        """Find for each PLACE the one of its CLASS that is met first."""
        colored = {}
        for p, color in enumerate(colors_of(self.flow)):
            found = self.first_with(p, colored.get(color, []))
            if found is None:
                colored.setdefault(color, []).append(p)
                found = p, list(range(self.flow[1][p][0]))
            self.firsts.append(found[0])
            self.images.append(found[1])
