"""GUARDS of PIPES: whether all that a PIPE tells is such that a FLOW says "yes" to it; BREACHES, and PAPERS on it."""

from onlyalike.errors import BadPaper, BadWords
from onlyalike.flows import need_flow
from onlyalike.growth import Program
from onlyalike.joints import MOST_JOINTS, MOST_PAPER_ITEMS
from onlyalike.pipes import need_pipe
from onlyalike.stages import Pair, Sides, Stages, words_of_all
from onlyalike.things import MOST_WORDS, is_integer, is_list, is_number, is_one_of, is_tuple_of, numbered
from onlyalike.within import has_escaped


class Guarded(Stages):
    """A PIPE, and a GUARD that reads what it tells and says the VERDICT alone."""

    def end(self, label, held):
        """The VERDICT of the GUARD, and what it tells behind the end."""
        verdicts, told = self.ends_of_each(label, held)
        return verdicts[-1], told


class Standings(Sides):
    """A search through the STANDINGS of a PIPE, a GUARD and what is GIVEN; one is GOOD if no BREACH ends there."""

    def __init__(self, pipe, guard, given, words):
        # Where nothing is GIVEN, this keeps nothing and says "yes" to all lists.
        other = Program(words, (), ()) if given is None else Stages((given,), words)
        super().__init__(Pair(Guarded((*pipe, guard), words), other))
        self.words = words
        self.flows = (*pipe, guard) if given is None else (*pipe, guard, given)
        # So many of them read one behind the other.
        self.reading = len(pipe) + 1

    def are_rows_good(self, row, other_row):
        """Rows do not matter here."""
        return True

    def are_ends_good(self, end, other_end):
        """Whether it is not "no" of the GUARD and "yes" of what is GIVEN."""
        return not has_escaped(other_end[0], end[0])

    def standing_of(self, node):
        """The STANDING for a PATTERN."""
        (first, second, _), holds = node
        out = []
        at = 0
        for flow, number in zip(self.flows, (*first, *second)):
            many = flow[1][number][0]
            out.append((number, holds[at:at + many]))
            at += many
        return tuple(out)

    def node_of(self, standing):
        """The PATTERN for a STANDING."""
        numbers = tuple([number for number, _ in standing])
        kept = [thing for _, held in standing[:self.reading] for thing in held]
        other_kept = [thing for _, held in standing[self.reading:] for thing in held]
        return (numbers[:self.reading], numbers[self.reading:], len(kept)), (*kept, *other_kept)

    def is_part(self, thing, flow):
        """Whether anything is a PLACE of a FLOW with what is held there, by its form."""
        if not is_tuple_of(thing, 2) or not is_number(thing[0], len(flow[1]) - 1):
            return False
        number, held = thing
        if not is_tuple_of(held, flow[1][number][0]):
            return False
        others = [word for word in self.words if word not in flow[0]]
        return all([is_integer(part) or is_one_of(part, others) for part in held]) and len(set(held)) == len(held)

    def is_standing(self, thing):
        """Whether anything is a STANDING by its form."""
        if not is_tuple_of(thing, len(self.flows)):
            return False
        if not all([self.is_part(part, flow) for part, flow in zip(thing, self.flows)]):
            return False
        held = tuple([part for _, parts in thing for part in parts])
        return numbered(self.words, held) == held

    def is_paper(self, thing):
        """Whether anything is a PAPER by its form."""
        if not is_tuple_of(thing, 2):
            return False
        word, told = thing
        if is_one_of(word, ("list",)):
            return is_list(told, MOST_PAPER_ITEMS) and numbered(self.words, told) == told
        if not is_one_of(word, ("closed",)) or not isinstance(told, tuple) or len(told) > MOST_JOINTS:
            return False
        return all([self.is_standing(part) for part in told])

    def is_kept_to(self, items):
        """Whether a list is no BREACH, however long it is."""
        label, held = self.pair.first
        for item in items:
            _, _, label, held = self.pair.steps(label, held, item)
        return self.is_end_good((label, held))

    def is_closed(self, standings):
        """Whether STANDINGS, told by their form, show that there is no BREACH."""
        nodes = [self.node_of(standing) for standing in standings]
        return len(set(nodes)) == len(nodes) and self.is_closed_lot(self.pair.first, nodes)


def standings_with(pipe, guard, given):
    """The STANDINGS of a PIPE, a GUARD and what is GIVEN; errors of what are none, or have too many WORDS together."""
    need_pipe(pipe)
    need_flow(guard)
    if given is not None:
        need_flow(given)
    words = words_of_all((*pipe, guard) if given is None else (*pipe, guard, given))
    if len(words) > MOST_WORDS:
        raise BadWords(words)
    return Standings(pipe, guard, given, words)


def breach_of(pipe, guard, given):
    """A BREACH, or None if the PIPE KEEPS TO the GUARD for all lists that are GIVEN."""
    return standings_with(pipe, guard, given).parting()


def guard_paper(pipe, guard, given):
    """A PAPER on whether a PIPE KEEPS TO a GUARD."""
    standings = standings_with(pipe, guard, given)
    breach = standings.parting()
    if breach is not None:
        return "list", breach
    return "closed", tuple([standings.standing_of(node) for node in standings.met])


def check_guard(pipe, guard, given, paper):
    """The first word of a PAPER that holds; BadPaper of one that does not."""
    standings = standings_with(pipe, guard, given)
    if not standings.is_paper(paper):
        raise BadPaper("form")
    word, told = paper
    if word == "list":
        if standings.is_kept_to(told):
            raise BadPaper("list")
    elif not standings.is_closed(told):
        raise BadPaper("closed")
    return word
