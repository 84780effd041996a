"""FLOWS one behind the other, over WORDS that have at least theirs, and programs side by side."""

from onlyalike.flows import ended, turned
from onlyalike.growth import Program, items_of
from onlyalike.machines import holds_of, kept_things
from onlyalike.search import Search


def words_of_all(flows):
    """The ascending tuple of the WORDS of all FLOWS."""
    return tuple(sorted(set([word for words, _ in flows for word in words])))


def read_by(flow, number, held, items):
    """What a FLOW tells of items from a PLACE on, and the number of the PLACE and what is held behind them."""
    words, places = flow
    told = []
    for item in items:
        row, number, held = turned(words, places[number], held, item)
        told.extend(row)
    return told, number, held


class Stages(Program):
    """FLOWS one behind the other, each of which reads what the one ahead tells.

    The label tells the PLACE of each; what all of them hold stands in one row.
    """

    def __init__(self, flows, words):
        super().__init__(words, (0,) * len(flows), ())
        self.flows = flows

    def held_by_each(self, label, held):
        """What each of them holds."""
        out = []
        at = 0
        for flow, number in zip(self.flows, label):
            many = flow[1][number][0]
            out.append(held[at:at + many])
            at += many
        return out

    def step(self, label, held, item):
        """What the last one tells meanwhile, the PLACES, and what is held."""
        items = [item]
        numbers = []
        kept = []
        for flow, number, own in zip(self.flows, label, self.held_by_each(label, held)):
            items, number_behind, held_behind = read_by(flow, number, own, items)
            numbers.append(number_behind)
            kept.extend(held_behind)
        return tuple(items), tuple(numbers), tuple(kept)

    def ends_of_each(self, label, held):
        """The VERDICTS of all, and what the last one tells behind the end."""
        items = []
        verdicts = []
        for flow, number, own in zip(self.flows, label, self.held_by_each(label, held)):
            items, number_behind, held_behind = read_by(flow, number, own, items)
            said, last = ended(flow[1][number_behind], held_behind)
            items.extend(last)
            verdicts.append(said)
        return verdicts, tuple(items)

    def end(self, label, held):
        """The VERDICT "yes" if all say so, and what the last one tells behind the end."""
        verdicts, told = self.ends_of_each(label, held)
        return ("no" if "no" in verdicts else "yes"), told


class Pair(Program):
    """Two programs side by side, over WORDS that have at least theirs; it tells nothing."""

    def __init__(self, one, other):
        first, held = one.first
        other_first, other_held = other.first
        super().__init__(one.words, (first, other_first, len(held)), (*held, *other_held))
        self.one = one
        self.other = other

    def steps(self, label, held, item):
        """What both tell at an item, and the label and what is held behind it."""
        first, second, many = label
        row, first, kept = self.one.step(first, held[:many], item)
        other_row, second, other_kept = self.other.step(second, held[many:], item)
        return row, other_row, (first, second, len(kept)), (*kept, *other_kept)

    def step(self, label, held, item):
        """The empty row, and the label and what is held behind an item."""
        _, _, following, kept = self.steps(label, held, item)
        return (), following, kept

    def ends(self, label, held):
        """The ENDs of both."""
        first, second, many = label
        return self.one.end(first, held[:many]), self.other.end(second, held[many:])


class Sides(Search):
    """A search through the PATTERNS of two programs side by side; one is GOOD if both tell the same there."""

    def __init__(self, pair):
        super().__init__()
        self.pair = pair

    def are_rows_good(self, row, other_row):
        """Whether both may tell this at an item."""
        return row == other_row

    def are_ends_good(self, end, other_end):
        """Whether both may end so."""
        return end == other_end

    def is_end_good(self, node):
        """Whether a list may end here."""
        end, other_end = self.pair.ends(node[0], node[1])
        return self.are_ends_good(end, other_end)

    def node_behind(self, node, item):
        """The PATTERN behind an item, or None if both may not tell this."""
        row, other_row, label, held = self.pair.steps(node[0], node[1], item)
        return (label, holds_of(self.pair.words, held)) if self.are_rows_good(row, other_row) else None

    def nodes_behind(self, node):
        """For each KIND a pair of an item and of the PATTERN behind it, None if that is not GOOD."""
        return [(item, self.node_behind(node, item)) for item in items_of(self.pair.words, node[1])]

    def parting(self):
        """A shortest PLAIN LIST of which both tell what is not GOOD, or None."""
        items = self.faulty_way(self.pair.first)
        return None if items is None else plain_way(self.pair, items)


def plain_way(program, items):
    """The PLAIN LIST of a way of a program, each item of which is numbered as what is held where it comes."""
    label, held = program.first
    fresh = 0
    out = []
    for item in items:
        names = kept_things(program.words, held)
        if isinstance(item, str):
            out.append(item)
        elif item < len(names):
            out.append(names[item])
        else:
            out.append(fresh)
            fresh += 1
        _, label, held = program.step(label, held, out[-1])
    return tuple(out)
