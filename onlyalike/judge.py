"""A JUDGE: whether a PAPER shows that a CLAIM on MACHINES is true, or that it is not."""

from onlyalike.alike import check_alike
from onlyalike.errors import BadClaim, BadPaper
from onlyalike.keeppapers import check_need
from onlyalike.losses import check_loss
from onlyalike.machines import machine_fault
from onlyalike.things import is_number, is_one_of, is_tuple_of
from onlyalike.within import check_within

MOST_CLAIMED = 8


def is_claim(thing):
    """Whether anything is a CLAIM."""
    if not is_tuple_of(thing, 3) or not is_one_of(thing[0], ("alike", "within", "need", "kept")):
        return False
    word, machine, other = thing
    if machine_fault(machine) is not None:
        return False
    if word == "need":
        return is_number(other, MOST_CLAIMED)
    if word == "kept":
        return isinstance(other, bool)
    return machine_fault(other) is None


def is_needed(machine, many, paper):
    """True of a PAPER that shows that so many THINGS are NEEDED; BadPaper of one with fewer ROWS."""
    if check_need(machine, paper) < many:
        raise BadPaper("row")
    return True


def judged(claim, paper):
    """Whether a PAPER shows that a CLAIM is true (else it shows that it is not); BadPaper of one that shows nothing."""
    if not is_claim(claim):
        raise BadClaim(claim)
    word, machine, other = claim
    if word == "need":
        return is_needed(machine, other, paper)
    if word == "kept":
        return check_loss(machine, other, paper) == "kept"
    if word == "within":
        return check_within(machine, other, paper) == "within"
    return check_alike(machine, other, paper) == "alike"
