"""CONDITIONS on whole lists: whether they hold, by definition, and as FLOWS."""

from onlyalike.errors import BadCondition
from onlyalike.fitted import fitted_flow
from onlyalike.growth import Program
from onlyalike.spots import MOST_DEEP, Form, Spots
from onlyalike.things import need_list
from onlyalike.watch import Watch

MOST_IN_CONDITION = 30


def form_of(condition):
    """What a CONDITION has in it; BadCondition of what is none."""
    form = Form(MOST_IN_CONDITION)
    if not form.is_one(condition, "condition", MOST_DEEP) or not form.is_bounded():
        raise BadCondition(condition)
    return form


def need_condition(thing):
    """The CONDITION itself; BadCondition of what is none."""
    form_of(thing)
    return thing


def kept_by_form(condition):
    """How many THINGS a CONDITION keeps by its form."""
    return form_of(condition).kept()


def words_of_condition(condition):
    """The ascending tuple of the WORDS of a CONDITION."""
    return tuple(sorted(form_of(condition).words))


def holds_at(condition, spots):
    """Whether a CONDITION holds of the list that has these SPOTS."""
    head = condition[0]
    if head == "and":
        return all([holds_at(part, spots) for part in condition[1]])
    if head == "or":
        return any([holds_at(part, spots) for part in condition[1]])
    if head == "not":
        return not holds_at(condition[1], spots)
    is_so = spots.so_at(condition[-1])
    if head == "some":
        return any(is_so)
    if head == "all":
        return all(is_so)
    if head == "end":
        return any(is_so[-1:])
    if head == "least":
        return is_so.count(True) >= condition[1]
    return is_so.count(True) % condition[1] == condition[2]


def does_hold(condition, things):
    """Whether a CONDITION holds of a list."""
    need_condition(condition)
    need_list(things)
    return holds_at(condition, Spots(things))


def plain_parts(condition):
    """The CONDITIONS in a CONDITION that ask a TEST."""
    if condition[0] in ("and", "or"):
        return [part for inner in condition[1] for part in plain_parts(inner)]
    return plain_parts(condition[1]) if condition[0] == "not" else [condition]


def counted(part, count, is_so):
    """What is known of a CONDITION that asks a TEST, a number, behind one more SPOT."""
    if part[0] == "some":
        return 1 if is_so else count
    if part[0] == "all":
        return count if is_so else 0
    if part[0] == "end":
        return 1 if is_so else 0
    if part[0] == "least":
        return min(part[1], count + 1) if is_so else count
    return (count + 1) % part[1] if is_so else count


def is_reached(part, count):
    """Whether a CONDITION that asks a TEST holds of a list that ends here."""
    if part[0] in ("least", "rest"):
        return count == (part[1] if part[0] == "least" else part[2])
    return count == 1


def is_sure(part, count):
    """Whether this stays so, whatever comes."""
    if part[0] in ("some", "least"):
        return is_reached(part, count)
    return part[0] == "all" and count == 0


class Judging(Program):
    """A CONDITION as one goes through a list.

    The label is the VERDICT where it stays so, whatever comes; else the flags of a Watch, and what is known of each of
    the CONDITIONS that ask a TEST.
    """

    def __init__(self, condition, words):
        self.condition = condition
        self.watch = Watch([condition])
        self.parts = []
        for part in plain_parts(condition):
            if part not in self.parts:
                self.parts.append(part)
        counts = [1 if part[0] == "all" else 0 for part in self.parts]
        label, held = self.as_far_as_open(self.watch.first_flags(), counts, self.watch.first_held())
        super().__init__(words, label, held)

    def verdict_of(self, condition, counts, is_final):
        """Whether a CONDITION holds of a list that ends here; if it is not the end, None if that is not sure."""
        if condition[0] == "not":
            inner = self.verdict_of(condition[1], counts, is_final)
            return None if inner is None else not inner
        if condition[0] in ("and", "or"):
            told = [self.verdict_of(part, counts, is_final) for part in condition[1]]
            decisive = condition[0] == "or"
            if decisive in told:
                return decisive
            return None if None in told else not decisive
        at = self.parts.index(condition)
        if is_final or is_sure(condition, counts[at]):
            return is_reached(condition, counts[at])
        return None

    def as_far_as_open(self, flags, counts, held):
        """The label, and what has to be held."""
        verdict = self.verdict_of(self.condition, counts, False)
        if verdict is None:
            return (flags, tuple(counts)), held
        return ("yes" if verdict else "no"), ()

    def step(self, label, held, item):
        """The empty row, and the label and what is held behind an item."""
        if isinstance(label, str):
            return (), label, held
        flags, counts = label
        counts = [counted(part, count, self.watch.is_so(part[-1], flags, held, item))
                  for part, count in zip(self.parts, counts)]
        flags_behind = self.watch.flags_behind(flags, held, item)
        following, kept = self.as_far_as_open(flags_behind, counts, self.watch.held_behind(flags, held, item))
        return (), following, kept

    def end(self, label, held):
        """The VERDICT, and the empty row."""
        if isinstance(label, str):
            return label, ()
        return ("yes" if self.verdict_of(self.condition, label[1], True) else "no"), ()


def compile_condition(condition):
    """COMPILED: the CONDITION as a FLOW over its WORDS."""
    return fitted_flow(Judging(condition, words_of_condition(condition)))
