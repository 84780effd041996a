"""Whether two programs are ALIKE: a PARTING of them, or a closed lot of JOINTS."""

from onlyalike.errors import BadPaper, BadQuestion
from onlyalike.flows import need_flow
from onlyalike.joints import FIRST_JOINT, Joints, flows_of_both, is_paper, whole_way
from onlyalike.machines import need_machine, told_of


def parting_way(one, other):
    """A PARTING of two FLOWS with the same WORDS, or None."""
    items = Joints(one, other).faulty_way(FIRST_JOINT)
    return None if items is None else whole_way(one, other, FIRST_JOINT, items)


def parting_of(one, other):
    """A PARTING of two MACHINES, or None if they are ALIKE."""
    need_machine(one)
    need_machine(other)
    flow, other_flow = flows_of_both(one, other)
    return parting_way(flow, other_flow)


def are_alike(one, other):
    """Whether two MACHINES are ALIKE."""
    return parting_of(one, other) is None


def flows_parting(one, other):
    """A PARTING of two FLOWS, or None if they are ALIKE; BadQuestion of unlike WORDS."""
    need_flow(one)
    need_flow(other)
    if one[0] != other[0]:
        raise BadQuestion("the WORDS of the two FLOWS are unlike")
    return parting_way(one, other)


def flows_alike(one, other):
    """Whether two FLOWS are ALIKE."""
    return flows_parting(one, other) is None


def alike_paper(one, other):
    """A PAPER on whether two MACHINES are ALIKE."""
    need_machine(one)
    need_machine(other)
    flow, other_flow = flows_of_both(one, other)
    joints = Joints(flow, other_flow)
    items = joints.faulty_way(FIRST_JOINT)
    if items is None:
        return "alike", tuple(sorted(joints.met))
    return "parted", whole_way(flow, other_flow, FIRST_JOINT, items)


def check_alike(one, other, paper):
    """The first word of a PAPER that holds; BadPaper of one that does not."""
    need_machine(one)
    need_machine(other)
    if not is_paper(paper, "alike", "parted"):
        raise BadPaper("form")
    if paper[0] == "parted":
        if told_of(one, paper[1]) == told_of(other, paper[1]):
            raise BadPaper("parted")
    else:
        flow, other_flow = flows_of_both(one, other)
        if not Joints(flow, other_flow).is_closed(paper[1]):
            raise BadPaper("alike")
    return paper[0]
