"""The CLASSES of the PLACES of a FLOW, its LEAST FLOW, and its TIDY MACHINE."""

from onlyalike.classes import Classes
from onlyalike.equal import match_links
from onlyalike.errors import TooMany
from onlyalike.flows import flow_through, machine_flow, need_flow
from onlyalike.machines import MOST_BOXES, MOST_OWN_WORDS, MOST_STATES, MOST_TOLD, need_machine
from onlyalike.needs import Needs
from onlyalike.things import need_list

LETTERS = "abcdefghij"
# Behind all numbers of THINGS.
LAST = 1000


class Least:
    """The LEAST FLOW of PLACES whose CLASSES are known, laid out PLACE by PLACE."""

    def __init__(self, classes):
        self.classes = classes
        self.words = classes.flow[0]
        # For each of its PLACES the first one of the CLASS, the THINGS of that in their new order, and how these
        # may change places.
        self.firsts = []
        self.orders = []
        self.changes = []
        self.numbers = {}
        self.number_of(0, [])

    def number_of(self, first, sources):
        """The number of the PLACE of a CLASS, which may be a new one; sources tell whence its THINGS come."""
        if first not in self.numbers:
            self.numbers[first] = len(self.firsts)
            self.firsts.append(first)
            pairs = sorted([(source, thing) for thing, source in enumerate(sources)])
            self.orders.append([thing for _, thing in pairs])
            self.changes.append(self.classes.own_images(first))
        return self.numbers[first]

    def turn_with(self, turn, own):
        """A TURN of a PLACE whose THINGS in their new order are own."""
        row, following, origins = turn
        told = tuple([own.index(part) if isinstance(part, int) else part for part in row])
        image = self.classes.images[following]
        # Whence each THING comes of the first PLACE of the CLASS.
        sources = [LAST] * len(image)
        for at, source in enumerate(origins):
            sources[image[at]] = LAST if source is None else own.index(source)
        number = self.number_of(self.classes.firsts[following], sources)
        order = self.orders[number]
        least = min([[sources[change[thing]] for thing in order] for change in self.changes[number]])
        return told, number, tuple([None if source == LAST else source for source in least])

    def place_with(self, number):
        """The PLACE with a number."""
        own = self.orders[number]
        _, turns, end = self.classes.flow[1][self.firsts[number]]
        count = len(self.words)
        left = [*turns[:count], *[turns[count + thing] for thing in own], turns[-1]]
        row = tuple([own.index(part) if isinstance(part, int) else part for part in end[1]])
        return len(own), tuple([self.turn_with(turn, own) for turn in left]), (end[0], row)

    def all_places(self):
        """All PLACES of it."""
        places = []
        while len(places) < len(self.firsts):
            places.append(self.place_with(len(places)))
        return tuple(places)


def classes_of(flow):
    """For each PLACE the number of the PLACE of the LEAST FLOW that stands for its CLASS, None if it is not MET."""
    need_flow(flow)
    classes = Classes(flow)
    least = Least(classes)
    least.all_places()
    numbers = {p: least.numbers[first] for p, first in zip(classes.order, classes.firsts)}
    return tuple([numbers.get(p) for p in range(len(flow[1]))])


def least_of(flow):
    """The LEAST FLOW of what is a FLOW but that it may have too many PLACES, or too much at one."""
    return flow[0], Least(Classes(flow)).all_places()


def least_flow(flow):
    """The LEAST FLOW of a FLOW."""
    need_flow(flow)
    return least_of(flow)


def same_class(machine, things, other):
    """Whether two lists lead to PLACES of one CLASS."""
    need_machine(machine)
    need_list(things)
    need_list(other)
    flow = machine_flow(machine, machine[0])
    _, p, _ = flow_through(flow, things)
    _, q, _ = flow_through(flow, other)
    return len(match_links(Needs(flow), p, q)) > 0


def need_few(many, most):
    """Nothing; TooMany of more than so many."""
    if many > most:
        raise TooMany(most)


def state_name(number):
    """The name of the STATE for a PLACE."""
    return "s" + "".join([LETTERS[int(figure)] for figure in str(number)])


def tidy_row(row, boxes):
    """The ROW of a LEAF that tells what the row of a PLACE does."""
    out = []
    for part in row:
        if part is None:
            out.append(("item",))
        else:
            out.append(("word", part) if isinstance(part, str) else ("box", boxes[part]))
    return tuple(out)


def tidy_deeds(origins, many, boxes):
    """The DEEDS by which the boxes hold what ORIGINS tell, where those of as many THINGS are full."""
    deeds = []
    for at, box in enumerate(boxes):
        if at >= len(origins):
            if at < many:
                deeds.append(("empty", box))
        elif origins[at] is None:
            deeds.append(("keep", box))
        elif origins[at] != at:
            deeds.append(("copy", boxes[origins[at]], box))
    return tuple(deeds)


def tidy_state(words, boxes, number, place):
    """The STATE for a PLACE."""
    many, turns, end = place
    leaves = [("go", tidy_deeds(origins, many, boxes), tidy_row(row, boxes), state_name(following))
              for row, following, origins in turns]
    questions = [*[("word", word) for word in words], *[("item", box) for box in boxes[:many]]]
    tree = leaves[-1]
    # The last leaf, that of NEW, has no question of its own.
    for question, leaf in reversed(list(zip(questions, leaves))):
        tree = ("ask", question, leaf, tree)
    return state_name(number), tree, ("end", end[0], tidy_row(end[1], boxes))


def tidy(flow):
    """The TIDY MACHINE of a FLOW."""
    need_flow(flow)
    words, places = flow
    most = max([place[0] for place in places])
    need_few(len(words), MOST_OWN_WORDS)
    need_few(len(places), MOST_STATES)
    need_few(most, MOST_BOXES)
    for _, turns, end in places:
        need_few(max([len(row) for row in [end[1], *[turn[0] for turn in turns]]]), MOST_TOLD)
    boxes = tuple([letter for letter in LETTERS[:most]])
    return words, boxes, tuple([tidy_state(words, boxes, number, place) for number, place in enumerate(places)])
