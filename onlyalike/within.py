"""Whether one MACHINE is WITHIN another one: whether it says "yes" only where the other one does."""

from onlyalike.errors import BadPaper
from onlyalike.joints import FIRST_JOINT, Joints, flows_of_both, is_paper, whole_way
from onlyalike.machines import need_machine, told_of


def has_escaped(verdict, other_verdict):
    """Whether the one says "yes" and the other one "no"."""
    return verdict == "yes" and other_verdict == "no"


class Inside(Joints):
    """Two FLOWS side by side of which only the VERDICTS are asked."""

    def are_rows_good(self, row, other_row):
        """Rows do not matter here."""
        return True

    def are_ends_good(self, end, other_end):
        """Whether it is not "yes" of the one and "no" of the other one."""
        return not has_escaped(end[0], other_end[0])


def within_paper(one, other):
    """A PAPER on whether the one MACHINE is WITHIN the other one."""
    need_machine(one)
    need_machine(other)
    flow, other_flow = flows_of_both(one, other)
    joints = Inside(flow, other_flow)
    items = joints.faulty_way(FIRST_JOINT)
    if items is None:
        return "within", tuple(sorted(joints.met))
    return "escaped", whole_way(flow, other_flow, FIRST_JOINT, items)


def escape_of(one, other):
    """An ESCAPE of the one MACHINE from the other one, or None."""
    word, told = within_paper(one, other)
    return told if word == "escaped" else None


def is_within(one, other):
    """Whether the one MACHINE is WITHIN the other one."""
    return escape_of(one, other) is None


def check_within(one, other, paper):
    """The first word of a PAPER that holds; BadPaper of one that does not."""
    need_machine(one)
    need_machine(other)
    if not is_paper(paper, "within", "escaped"):
        raise BadPaper("form")
    if paper[0] == "escaped":
        if not has_escaped(told_of(one, paper[1])[1], told_of(other, paper[1])[1]):
            raise BadPaper("escaped")
    else:
        flow, other_flow = flows_of_both(one, other)
        if not Inside(flow, other_flow).is_closed(paper[1]):
            raise BadPaper("within")
    return paper[0]
