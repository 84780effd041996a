"""FLOWS as verdicts on lists: both, either, the one without the other, turned; and lists that tell them apart."""

from onlyalike.errors import BadWords
from onlyalike.fitted import fitted_flow, lessened
from onlyalike.flows import need_flow, ways_met
from onlyalike.machines import need_verdict
from onlyalike.stages import Pair, Sides, Stages, words_of_all
from onlyalike.things import MOST_WORDS


class Joined(Pair):
    """Two programs side by side; the VERDICT is "yes" where the pair of theirs is one of some."""

    def __init__(self, one, other, accepted):
        super().__init__(one, other)
        self.accepted = accepted

    def end(self, label, held):
        """The VERDICT, and the empty row."""
        (verdict, _), (other_verdict, _) = self.ends(label, held)
        return ("yes" if (verdict, other_verdict) in self.accepted else "no"), ()


class OnlyVerdicts(Sides):
    """A search through two programs side by side of which only the VERDICTS are asked."""

    def are_rows_good(self, row, other_row):
        """Rows do not matter here."""
        return True

    def are_ends_good(self, end, other_end):
        """Whether the VERDICTS are the same."""
        return end[0] == other_end[0]


def silent(flow):
    """The FLOW with empty rows."""
    words, places = flow
    out = []
    for many, turns, (verdict, _) in places:
        out.append((many, tuple([((), following, origins) for _, following, origins in turns]), (verdict, ())))
    return words, tuple(out)


def over_words_of_both(one, other):
    """The VERDICTS of two FLOWS over the WORDS of both, as programs; BadWords if these are too many."""
    need_flow(one)
    need_flow(other)
    words = words_of_all((one, other))
    if len(words) > MOST_WORDS:
        raise BadWords(words)
    # What is kept for rows alone would only make them greater.
    return Stages((lessened(silent(one)),), words), Stages((lessened(silent(other)),), words)


def flow_both(one, other):
    """A FLOW that says "yes" where both do."""
    first, second = over_words_of_both(one, other)
    return fitted_flow(Joined(first, second, (("yes", "yes"),)))


def flow_either(one, other):
    """A FLOW that says "yes" where one of both does."""
    first, second = over_words_of_both(one, other)
    return fitted_flow(Joined(first, second, (("yes", "yes"), ("yes", "no"), ("no", "yes"))))


def flow_without(one, other):
    """A FLOW that says "yes" where the one does and the other one does not."""
    first, second = over_words_of_both(one, other)
    return fitted_flow(Joined(first, second, (("yes", "no"),)))


def flow_turned(flow):
    """A FLOW that says "yes" where this one says "no"."""
    need_flow(flow)
    words, places = silent(flow)
    turned = {"yes": ("no", ()), "no": ("yes", ())}
    return words, tuple([(many, turns, turned[end[0]]) for many, turns, end in places])


def first_with(flow, verdict):
    """A shortest PLAIN LIST with a VERDICT, or None."""
    need_flow(flow)
    need_verdict(verdict)
    fitting = [way for p, way in ways_met(flow).items() if flow[1][p][2][0] == verdict]
    return fitting[0] if len(fitting) > 0 else None


def unlike_verdicts(one, other):
    """A shortest PLAIN LIST with unlike VERDICTS, or None."""
    first, second = over_words_of_both(one, other)
    return OnlyVerdicts(Pair(first, second)).parting()


def same_verdicts(one, other):
    """Whether both have the same VERDICT for all lists."""
    return unlike_verdicts(one, other) is None
