"""Whether two MACHINES are ALIKE IN SUM: whether all that they tell, joined, is the same."""

from onlyalike.flows import ended, turned
from onlyalike.joints import FIRST_JOINT, Joints, flows_of_both, link_between, whole_way
from onlyalike.machines import need_machine


class Sums(Joints):
    """JOINTS with how many THINGS more the one FLOW has told (fewer than none: the other one).

    As each list may end, what the one is ahead begins the row of the other one's END, so how many tells which.
    """

    def ahead_at(self, joint, holds):
        """What the one FLOW, and what the other one, has told that both have not."""
        more = joint[3]
        if more > 0:
            return ended(self.other_places[joint[1]], holds[1])[1][:more], ()
        return (), ended(self.places[joint[0]], holds[0])[1][:-more]

    def is_end_good(self, joint):
        """Whether all that is told is the same if the list ends at a JOINT."""
        holds = self.holds_at(joint)
        told, other_told = self.ahead_at(joint, holds)
        verdict, last = ended(self.places[joint[0]], holds[0])
        other_verdict, other_last = ended(self.other_places[joint[1]], holds[1])
        return verdict == other_verdict and told + last == other_told + other_last

    def joint_behind(self, joint, holds, item):
        """The JOINT to which one comes by an item; None if unlike things are told when the list ends there."""
        told, other_told = self.ahead_at(joint, holds)
        row, p, held = turned(self.words, self.places[joint[0]], holds[0], item)
        other_row, q, other_held = turned(self.words, self.other_places[joint[1]], holds[1], item)
        told = told + row
        other_told = other_told + other_row
        _, last = ended(self.places[p], held)
        _, other_last = ended(self.other_places[q], other_held)
        if told + last != other_told + other_last:
            return None
        return p, q, link_between(held, other_held), len(told) - len(other_told)


def parting_in_sum(one, other):
    """A PARTING IN SUM of two MACHINES, or None if they are ALIKE IN SUM."""
    need_machine(one)
    need_machine(other)
    flow, other_flow = flows_of_both(one, other)
    items = Sums(flow, other_flow).faulty_way((*FIRST_JOINT, 0))
    return None if items is None else whole_way(flow, other_flow, FIRST_JOINT, items)


def alike_in_sum(one, other):
    """Whether two MACHINES are ALIKE IN SUM."""
    return parting_in_sum(one, other) is None
