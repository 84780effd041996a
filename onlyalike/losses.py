"""Whether unlike lists have unlike RECORDS: a LOSS, or the STANDINGS of two copies that show that there is none."""

from onlyalike.copies import Copies
from onlyalike.errors import BadNumber, BadPaper, TooMany
from onlyalike.flows import flow_through, machine_flow, ways_met
from onlyalike.joints import MOST_PAPER_ITEMS
from onlyalike.machines import need_machine, told_of
from onlyalike.things import count_numbers, is_integer, is_list, is_one_of, is_tuple_of, numbered

MOST_STANDINGS = 20000


def is_lost(packed):
    """Whether both copies have ended at a STANDING, and all that they told is the same."""
    first, second, _, ahead = packed
    return first < 0 and first == second and ahead == (0, ())


class Losses:
    """The STANDINGS that come behind a parting, looked for by how many items both lists have together."""

    def __init__(self, flow, in_sum):
        self.flow = flow
        self.copies = Copies(flow, in_sum)
        self.ways = ways_met(flow)
        # Of each STANDING how many items it needs, and the one ahead, or the PLACE of a parting, with the number of
        # the step from there.
        self.costs = {}
        self.sources = {}
        self.layers = [[] for _ in range(2 * max([len(way) for way in self.ways.values()]) + 1)]

    def come_to(self, packed, cost, source):
        """Note that one comes to a STANDING by so many items."""
        if packed in self.costs:
            if self.costs[packed] <= cost:
                return
        elif len(self.costs) > MOST_STANDINGS:
            # One too many is enough to be told, at the end of the layer.
            return
        self.costs[packed] = cost
        self.sources[packed] = source
        while len(self.layers) <= cost:
            self.layers.append([])
        self.layers[cost].append(packed)

    def come_by(self, steps, cost, ahead):
        """Note all to which one comes by some steps; the first one at which there is a LOSS, or None."""
        for number, (step, standing) in enumerate(steps):
            packed = self.copies.packed(standing)
            self.come_to(packed, cost + len([item for item in step if item is not None]), (ahead, number))
            if is_lost(packed):
                self.sources[packed] = (ahead, number)
                return packed
        return None

    def loss_at(self, cost):
        """The first STANDING found that is a LOSS with so many items together, or None."""
        for number, way in self.ways.items():
            if 2 * len(way) == cost:
                many = self.flow[1][number][0]
                self.come_by(self.copies.partings(number, list(range(many)), many), cost, number)
        layer = self.layers[cost]
        at = 0
        # An end needs no item, so the layer grows on the way.
        while at < len(layer):
            packed = layer[at]
            at += 1
            # It was come to again by fewer items.
            if self.costs[packed] < cost:
                continue
            standing = self.copies.unpacked(packed)
            steps = self.copies.behind(standing, len(self.copies.names_at(standing)))
            found = self.come_by(steps, cost, packed)
            if found is not None:
                return found
        return None

    def first_loss(self):
        """A STANDING that is a LOSS with as few items as can be, or None; TooMany of too many STANDINGS ahead of it."""
        cost = 0
        while cost < len(self.layers):
            found = self.loss_at(cost)
            if found is not None:
                return found
            if len(self.costs) > MOST_STANDINGS:
                raise TooMany(MOST_STANDINGS)
            cost += 1
        return None

    def steps_to(self, packed):
        """The PLACE of the parting from which one comes to a STANDING, and the numbers of the steps."""
        numbers = []
        source = packed
        while not is_integer(source):
            source, number = self.sources[source]
            numbers.append(number)
        numbers.reverse()
        return source, numbers

    def lists_to(self, packed):
        """The two lists by which one comes to a STANDING."""
        place, numbers = self.steps_to(packed)
        way = self.ways[place]
        _, _, held = flow_through(self.flow, way)
        ones = list(way)
        others = list(way)
        fresh = count_numbers(way)
        steps = self.copies.partings(place, held, fresh)
        for number in numbers:
            (one, other), standing = steps[number]
            if one is not None:
                ones.append(one)
            if other is not None:
                others.append(other)
            fresh = max([fresh, *[item + 1 for item in (one, other) if is_integer(item)]])
            steps = self.copies.behind(standing, fresh)
        whole = numbered(self.flow[0], [*ones, *others])
        return whole[:len(ones)], whole[len(ones):]


def need_in_sum(thing):
    """True or False itself; BadNumber of what is none of both."""
    if not isinstance(thing, bool):
        raise BadNumber(thing)
    return thing


def losses_of(machine, in_sum):
    """The search for a LOSS of a MACHINE; errors of what are no arguments of this kind."""
    need_machine(machine)
    need_in_sum(in_sum)
    return Losses(machine_flow(machine, machine[0]), in_sum)


def loss_of(machine, in_sum):
    """A LOSS with as few items together as can be, or None."""
    losses = losses_of(machine, in_sum)
    found = losses.first_loss()
    return None if found is None else losses.lists_to(found)


def does_keep(machine, in_sum):
    """Whether a MACHINE KEEPS ALL."""
    return losses_of(machine, in_sum).first_loss() is None


def loss_paper(machine, in_sum):
    """A PAPER on whether a MACHINE KEEPS ALL."""
    losses = losses_of(machine, in_sum)
    found = losses.first_loss()
    if found is None:
        return "kept", tuple(sorted(losses.costs))
    one, other = losses.lists_to(found)
    return "lost", one, other


def are_integers(thing):
    """Whether anything is a tuple of integers."""
    return isinstance(thing, tuple) and all([is_integer(part) for part in thing])


def is_standing(thing):
    """Whether anything is a STANDING by its form."""
    if not is_tuple_of(thing, 4) or not is_integer(thing[0]) or not is_integer(thing[1]):
        return False
    _, _, held, ahead = thing
    if not is_tuple_of(held, 2) or not all([are_integers(part) for part in held]):
        return False
    return is_tuple_of(ahead, 2) and is_integer(ahead[0]) and are_integers(ahead[1])


def is_kept_paper(thing):
    """Whether anything is by its form a PAPER that tells that a MACHINE KEEPS ALL."""
    if not is_tuple_of(thing, 2) or not is_one_of(thing[0], ("kept",)) or not isinstance(thing[1], tuple):
        return False
    return all([is_standing(part) for part in thing[1]])


def is_lost_paper(thing, words):
    """Whether anything is by its form a PAPER that tells a LOSS."""
    if not is_tuple_of(thing, 3) or not is_one_of(thing[0], ("lost",)):
        return False
    _, one, other = thing
    if not is_list(one, MOST_PAPER_ITEMS) or not is_list(other, MOST_PAPER_ITEMS):
        return False
    return numbered(words, (*one, *other)) == (*one, *other)


def record_of(machine, items, in_sum):
    """The RECORD of a list, IN SUM or not."""
    rows, verdict, last = told_of(machine, items)
    if not in_sum:
        return rows, verdict, last
    return [thing for row in (*rows, last) for thing in row], verdict


def check_loss(machine, in_sum, paper):
    """The first word of a PAPER that holds; BadPaper of one that does not."""
    need_machine(machine)
    need_in_sum(in_sum)
    if is_lost_paper(paper, machine[0]):
        _, one, other = paper
        if one == other or record_of(machine, one, in_sum) != record_of(machine, other, in_sum):
            raise BadPaper("lost")
    elif is_kept_paper(paper):
        losses = losses_of(machine, in_sum)
        if losses.first_loss() is not None or tuple(sorted(losses.costs)) != paper[1]:
            raise BadPaper("kept")
    else:
        raise BadPaper("form")
    return paper[0]
