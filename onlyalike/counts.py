"""How many PLAIN LISTS with a VERDICT there are, which one has a number, and how much is told of them."""

from onlyalike.errors import BadList, BadNumber
from onlyalike.flows import flow_through, machine_flow, turned
from onlyalike.machines import MOST_OWN_WORDS, need_machine, need_verdict
from onlyalike.things import count_numbers, is_integer, is_list, is_number, numbered

MOST_COUNTED = 40


def need_number(thing, most):
    """The number itself; BadNumber of what is no integer from 0 to most."""
    if not is_number(thing, most):
        raise BadNumber(thing)
    return thing


def is_counted(thing, words, things):
    """Whether anything is a PLAIN LIST that is short enough, with so many unlike numbers at most."""
    return is_list(thing, MOST_COUNTED) and numbered(words, thing) == thing and count_numbers(thing) <= things


class Counts:
    """How many lists with a VERDICT go on from each PLACE of a FLOW, with a bound of unlike numbers."""

    def __init__(self, flow, verdict, many, things):
        self.words = flow[0]
        self.places = flow[1]
        self.many = many
        self.things = things
        ends = [1 if end[0] == verdict else 0 for _, _, end in self.places]
        # By how many items are left, by PLACE, and by how many unlike numbers have come.
        self.layers = [[[ways] * (things + 1) for ways in ends]]
        for _ in range(many):
            self.layers.append(self.layer_with(self.layers[-1]))

    def layer_with(self, layer):
        """The ways to go on with one item more than those of a layer."""
        return [self.ways_from(place, layer) for place in self.places]

    def ways_from(self, place, layer):
        """The ways to go on from a PLACE by one item, and then as a layer tells; by how many unlike numbers came."""
        many, turns, _ = place
        known = [layer[following] for _, following, _ in turns[:-1]]
        fresh = layer[turns[-1][1]]
        out = []
        for size in range(self.things + 1):
            # Each number that was let go does as a new one; fewer than the PLACE keeps have never come there.
            ways = sum([following[size] for following in known]) + max(size - many, 0) * fresh[size]
            if size < self.things:
                ways += fresh[size + 1]
            out.append(ways)
        return out

    def total(self):
        """How many lists there are."""
        return self.layers[-1][0][0]

    def options(self, left, size, number, held):
        """What can come at a PLACE, in its order: each item, how many lists go on so, and what is so behind it."""
        out = []
        for item in [*self.words, *list(range(min(size + 1, self.things)))]:
            _, following, kept = turned(self.words, self.places[number], held, item)
            grown = size + 1 if item == size else size
            out.append((item, self.layers[left][following][grown], (grown, following, kept)))
        return out


def list_at_number(counts, number):
    """The PLAIN LIST with a number that is less than the count."""
    behind = (0, 0, [])
    out = []
    for at in range(counts.many):
        size, place, held = behind
        for item, ways, following in counts.options(counts.many - at - 1, size, place, held):
            if number < ways:
                out.append(item)
                behind = following
                break
            number -= ways
    return tuple(out)


def number_of_list(counts, items):
    """How many lists of the same length stand ahead of a PLAIN LIST."""
    behind = (0, 0, [])
    total = 0
    for at, thing in enumerate(items):
        size, place, held = behind
        for item, ways, following in counts.options(counts.many - at - 1, size, place, held):
            if item == thing:
                behind = following
                break
            total += ways
    return total


def count_lists(machine, verdict, many, things):
    """The COUNT of the PLAIN LISTS with a VERDICT, so many items, and so many unlike numbers at most."""
    need_machine(machine)
    need_verdict(verdict)
    need_number(many, MOST_COUNTED)
    need_number(things, MOST_COUNTED)
    return Counts(machine_flow(machine, machine[0]), verdict, many, things).total()


def list_at(machine, verdict, many, things, number):
    """The one with a number of the PLAIN LISTS that are LISTED; BadNumber of what is no number of one."""
    need_machine(machine)
    need_verdict(verdict)
    need_number(many, MOST_COUNTED)
    need_number(things, MOST_COUNTED)
    if not is_integer(number) or number < 0:
        raise BadNumber(number)
    counts = Counts(machine_flow(machine, machine[0]), verdict, many, things)
    need_number(number, counts.total() - 1)
    return list_at_number(counts, number)


def list_number(machine, verdict, things, items):
    """The number of a PLAIN LIST among those LISTED with its length; BadList of what is none of these."""
    need_machine(machine)
    need_verdict(verdict)
    need_number(things, MOST_COUNTED)
    if not is_counted(items, machine[0], things):
        raise BadList(items)
    flow = machine_flow(machine, machine[0])
    _, place, _ = flow_through(flow, items)
    if flow[1][place][2][0] != verdict:
        raise BadList(items)
    return number_of_list(Counts(flow, verdict, len(items), things), items)


def lists_in_all(words, many, things):
    """How many PLAIN LISTS with so many items, and so many unlike numbers at most, there are over so many WORDS."""
    need_number(words, MOST_OWN_WORDS)
    need_number(many, MOST_COUNTED)
    need_number(things, MOST_COUNTED)
    # By how many unlike numbers have come.
    ways = [1] * (things + 1)
    for _ in range(many):
        ways = [(words + size) * same + (ways[size + 1] if size < things else 0) for size, same in enumerate(ways)]
    return ways[0]


def least_and_greatest(tales):
    """The least and the greatest of what some pairs tell."""
    return min([least for least, _ in tales]), max([greatest for _, greatest in tales])


def tales_behind(flow, tales):
    """For each PLACE to which one more item leads the least and the greatest TALE, from those of the PLACES ahead."""
    found = {}
    for number, (least, greatest) in tales.items():
        for row, following, _ in flow[1][number][1]:
            found.setdefault(following, []).append((least + len(row), greatest + len(row)))
    return {number: least_and_greatest(pairs) for number, pairs in found.items()}


def range_of(machine, verdict, many):
    """The RANGE of a VERDICT and a length, or None if there is no such list."""
    need_machine(machine)
    need_verdict(verdict)
    need_number(many, MOST_COUNTED)
    flow = machine_flow(machine, machine[0])
    tales = {0: (0, 0)}
    for _ in range(many):
        tales = tales_behind(flow, tales)
    whole = []
    for number, (least, greatest) in tales.items():
        said, row = flow[1][number][2]
        if said == verdict:
            whole.append((least + len(row), greatest + len(row)))
    return least_and_greatest(whole) if len(whole) > 0 else None
