"""JOINTS of two FLOWS with the same WORDS, side by side."""

from onlyalike.flows import MOST_MANY, ended, machine_flow, turned
from onlyalike.growth import MOST_PLACES
from onlyalike.search import Search
from onlyalike.things import is_ascending, is_list, is_number, is_one_of, is_tuple_of

MOST_JOINTS = 20000
MOST_PAPER_ITEMS = 25000
FIRST_JOINT = (0, 0, ())


def is_link(thing, many, other_many):
    """Whether anything is an ascending tuple of pairs of numbers below both MANY, none twice on a side."""
    if not isinstance(thing, tuple) or not all([is_tuple_of(pair, 2) for pair in thing]):
        return False
    if not all([is_number(first, many - 1) and is_number(second, other_many - 1) for first, second in thing]):
        return False
    seconds = [pair[1] for pair in thing]
    return is_ascending([pair[0] for pair in thing]) and len(set(seconds)) == len(seconds)


def is_joint(thing):
    """Whether anything is a JOINT by its form."""
    if not is_tuple_of(thing, 3):
        return False
    numbers = is_number(thing[0], MOST_PLACES - 1) and is_number(thing[1], MOST_PLACES - 1)
    return numbers and is_link(thing[2], MOST_MANY, MOST_MANY)


def are_joints(thing):
    """Whether anything is an ascending tuple of JOINTS by their form."""
    if not isinstance(thing, tuple) or len(thing) > MOST_JOINTS:
        return False
    return all([is_joint(joint) for joint in thing]) and is_ascending(thing)


def is_paper(thing, lot_word, list_word):
    """Whether anything is a PAPER by its form: the one word and JOINTS, or the other one and a LIST."""
    if not is_tuple_of(thing, 2):
        return False
    if is_one_of(thing[0], (lot_word,)):
        return are_joints(thing[1])
    return is_one_of(thing[0], (list_word,)) and is_list(thing[1], MOST_PAPER_ITEMS)


def flows_of_both(one, other):
    """The FLOWS of two MACHINES over the WORDS of both."""
    words = tuple(sorted(set([*one[0], *other[0]])))
    return machine_flow(one, words), machine_flow(other, words)


def other_numbers(many, other_many, link):
    """The COMMON NUMBERS of the THINGS of the other PLACE."""
    linked = {second: first for first, second in link}
    out = []
    fresh = many
    for second in range(other_many):
        if second in linked:
            out.append(linked[second])
        else:
            out.append(fresh)
            fresh += 1
    return out


def all_held(held, other_held):
    """What is held by the one or by the other, as COMMON NUMBERS have it."""
    return [*held, *[thing for thing in other_held if thing not in held]]


def link_between(held, other_held):
    """The LINK of what is held by both."""
    return tuple([(at, other_held.index(thing)) for at, thing in enumerate(held) if thing in other_held])


def whole_way(one, other, start, items):
    """A way from a JOINT, each item in COMMON NUMBERS of the JOINT at which it comes, in those of the first one."""
    words, places = one
    other_places = other[1]
    p, q, link = start
    held = list(range(places[p][0]))
    other_held = other_numbers(len(held), other_places[q][0], link)
    fresh = len(all_held(held, other_held))
    out = []
    for item in items:
        both = all_held(held, other_held)
        if isinstance(item, str):
            out.append(item)
        elif item < len(both):
            out.append(both[item])
        else:
            out.append(fresh)
            fresh += 1
        _, p, held = turned(words, places[p], held, out[-1])
        _, q, other_held = turned(words, other_places[q], other_held, out[-1])
    return tuple(out)


class Joints(Search):
    """Two FLOWS with the same WORDS, side by side, and a search through their JOINTS; GOOD as for ALIKE."""

    def __init__(self, one, other):
        super().__init__()
        self.words = one[0]
        self.places = one[1]
        self.other_places = other[1]

    def are_rows_good(self, row, other_row):
        """Whether what both tell at an item lets a JOINT be GOOD."""
        return row == other_row

    def are_ends_good(self, end, other_end):
        """Whether both ENDs let a JOINT be GOOD."""
        return end == other_end

    def holds_at(self, joint):
        """What both PLACES of a JOINT hold, in COMMON NUMBERS."""
        many = self.places[joint[0]][0]
        return list(range(many)), other_numbers(many, self.other_places[joint[1]][0], joint[2])

    def is_end_good(self, joint):
        """Whether the ENDs at a JOINT let it be GOOD."""
        held, other_held = self.holds_at(joint)
        end = ended(self.places[joint[0]], held)
        return self.are_ends_good(end, ended(self.other_places[joint[1]], other_held))

    def joint_behind(self, joint, holds, item):
        """The JOINT to which one comes by an item; None if the rows there are not GOOD."""
        row, p, held = turned(self.words, self.places[joint[0]], holds[0], item)
        other_row, q, other_held = turned(self.words, self.other_places[joint[1]], holds[1], item)
        if not self.are_rows_good(row, other_row):
            return None
        return p, q, link_between(held, other_held)

    def nodes_behind(self, joint):
        """For each KIND a pair of an item, in COMMON NUMBERS, and the JOINT to which one comes by it, or None."""
        holds = self.holds_at(joint)
        both = all_held(holds[0], holds[1])
        items = [*self.words, *both, len(both)]
        return [(item, self.joint_behind(joint, holds, item)) for item in items]

    def has_joint(self, joint):
        """Whether the FLOWS have the PLACES and THINGS of a JOINT."""
        p, q, link = joint
        if p >= len(self.places) or q >= len(self.other_places):
            return False
        return is_link(link, self.places[p][0], self.other_places[q][0])

    def is_closed(self, joints):
        """Whether JOINTS, told by their form, are a closed lot."""
        return all([self.has_joint(joint) for joint in joints]) and self.is_closed_lot(FIRST_JOINT, joints)
