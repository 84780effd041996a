"""FLOWS: what one is by its form, how it goes through a LIST, and the FLOW of a MACHINE."""

from onlyalike.errors import BadFlow, BadWords
from onlyalike.growth import MOST_PLACES, MOST_ROW, Growth, Program, items_of
from onlyalike.machines import VERDICTS, end_of, is_so, need_machine, step_of, trees_of
from onlyalike.things import MOST_WORDS, are_words, count_numbers, is_number, is_one_of, is_tuple_of, need_list

MOST_MANY = 16


def is_told(part, words, many, is_new):
    """Whether anything can be told at a PLACE: a WORD, the number of a THING, or at NEW None."""
    if part is None:
        return is_new
    return is_one_of(part, words) or is_number(part, many - 1)


def is_row(thing, words, many, is_new):
    """Whether anything is a ROW of a PLACE."""
    if not isinstance(thing, tuple) or len(thing) > MOST_ROW:
        return False
    return all([is_told(part, words, many, is_new) for part in thing])


def are_origins(thing, wanted, many, is_new):
    """Whether anything tells unlike ORIGINS for as many THINGS as are wanted."""
    if not is_tuple_of(thing, wanted):
        return False
    if not all([is_new if part is None else is_number(part, many - 1) for part in thing]):
        return False
    return len(set(thing)) == wanted


def is_turn(thing, flow, many, is_new):
    """Whether anything is a TURN of a PLACE; each of the PLACES begins with a MANY."""
    words, places = flow
    if not is_tuple_of(thing, 3):
        return False
    row, following, origins = thing
    if not is_row(row, words, many, is_new) or not is_number(following, len(places) - 1):
        return False
    return are_origins(origins, places[following][0], many, is_new)


def is_place_end(thing, words, many):
    """Whether anything is the END of a PLACE."""
    if not is_tuple_of(thing, 2) or not is_one_of(thing[0], VERDICTS):
        return False
    return is_row(thing[1], words, many, False)


def is_place(thing, flow):
    """Whether a triple that begins with a MANY is a PLACE."""
    many, turns, end = thing
    new_at = len(flow[0]) + many
    if not is_tuple_of(turns, new_at + 1):
        return False
    good = [is_turn(turn, flow, many, at == new_at) for at, turn in enumerate(turns)]
    return all(good) and is_place_end(end, flow[0], many)


def has_many(thing, most):
    """Whether anything is a triple with a MANY ahead, so great at most."""
    return is_tuple_of(thing, 3) and is_number(thing[0], most)


def places_fault(flow):
    """The place of the first of PLACES that is none, or None."""
    for at, place in enumerate(flow[1]):
        if not has_many(place, MOST_MANY if at > 0 else 0):
            return (1, at)
    for at, place in enumerate(flow[1]):
        if not is_place(place, flow):
            return (1, at)
    return None


def flow_fault(thing):
    """The place at which anything is no FLOW, or None of one."""
    if not is_tuple_of(thing, 2):
        return ()
    words, places = thing
    if not are_words(words, MOST_WORDS):
        return (0,)
    if not isinstance(places, tuple) or not 1 <= len(places) <= MOST_PLACES:
        return (1,)
    return places_fault(thing)


def need_flow(thing):
    """The FLOW itself; BadFlow of what is none."""
    place = flow_fault(thing)
    if place is not None:
        raise BadFlow(place)
    return thing


def turned(words, place, held, item):
    """What a PLACE tells at an item, the number of the next one, and what is held there.

    held tells the THINGS that the numbers of the PLACE stand for, by any names.
    """
    many, turns, _ = place
    if item in words:
        at = words.index(item)
    elif item in held:
        at = len(words) + held.index(item)
    else:
        at = len(words) + many
    row, following, origins = turns[at]
    told = [item if part is None else part if isinstance(part, str) else held[part] for part in row]
    kept = [item if part is None else held[part] for part in origins]
    return tuple(told), following, kept


def ended(place, held):
    """VERDICT and row of a PLACE at which a list ends."""
    _, _, end = place
    return end[0], tuple([part if isinstance(part, str) else held[part] for part in end[1]])


def flow_through(flow, things):
    """The rows that are told for THINGS, and the number of the PLACE and what is held behind them."""
    words, places = flow
    number = 0
    held = []
    rows = []
    for item in things:
        row, number, held = turned(words, places[number], held, item)
        rows.append(row)
    return rows, number, held


def run_flow(flow, things):
    """The BEHAVIOUR of a FLOW for a LIST."""
    need_flow(flow)
    need_list(things)
    rows, number, held = flow_through(flow, things)
    verdict, last = ended(flow[1][number], held)
    return tuple(rows), verdict, last


def place_behind(flow, things):
    """The number of the PLACE behind a LIST."""
    need_flow(flow)
    need_list(things)
    _, number, _ = flow_through(flow, things)
    return number


def ways_met(flow):
    """The WAY to each PLACE that is MET, by its number, in the order in which one first meets them."""
    words, places = flow
    ways = {0: ()}
    holds = {0: []}
    order = [0]
    at = 0
    while at < len(order):
        number = order[at]
        way, held = ways[number], holds[number]
        for item in [*words, *held, count_numbers(way)]:
            _, following, kept = turned(words, places[number], held, item)
            if following not in ways:
                ways[following] = (*way, item)
                holds[following] = kept
                order.append(following)
        at += 1
    return ways


def ways_to(flow):
    """The tuple of the WAYs to the PLACES of a FLOW, None of one to which none leads."""
    need_flow(flow)
    ways = ways_met(flow)
    return tuple([ways.get(number) for number in range(len(flow[1]))])


class Boxes(Program):
    """A MACHINE over WORDS: its STATES are the labels, and what its boxes hold is held."""

    def __init__(self, machine, words):
        super().__init__(words, machine[2][0][0], (None,) * len(machine[1]))
        self.boxes = machine[1]
        self.trees = trees_of(machine)

    def boxes_with(self, held):
        """What each box holds."""
        return dict(zip(self.boxes, held))

    def step(self, label, held, item):
        """What is told at an item, the STATE behind it, and what the boxes hold there."""
        row, following, boxes = step_of(self.trees, label, self.boxes_with(held), item)
        return row, following, [boxes[box] for box in self.boxes]

    def end(self, label, held):
        """VERDICT and row of a list that ends here."""
        return end_of(self.trees, label, self.boxes_with(held))


def machine_flow(machine, words):
    """The FLOW of a MACHINE over WORDS that have at least its own."""
    return words, Growth(Boxes(machine, words), MOST_PLACES).all_places()


def patterns_met(machine):
    """The PATTERNS of a MACHINE as one first meets them, and the FLOW that has a PLACE for each."""
    growth = Growth(Boxes(machine, machine[0]), MOST_PLACES)
    places = growth.all_places()
    return growth.patterns, (machine[0], places)


def flow_of(machine):
    """The FLOW of a MACHINE alone."""
    need_machine(machine)
    return machine_flow(machine, machine[0])


def flow_over(machine, words):
    """The FLOW of a MACHINE over WORDS; BadWords of what are none, or have not its own."""
    need_machine(machine)
    if not are_words(words, MOST_WORDS) or not all([word in words for word in machine[0]]):
        raise BadWords(words)
    return machine_flow(machine, words)


def patterns_of(machine):
    """The tuple of the PATTERNS of the PLACES of the FLOW of a MACHINE."""
    need_machine(machine)
    patterns, _ = patterns_met(machine)
    return tuple(patterns)


def count_leaves(tree):
    """How many LEAVES a TREE has."""
    if tree[0] != "ask":
        return 1
    return count_leaves(tree[2]) + count_leaves(tree[3])


def leaf_number(tree, boxes, item):
    """The number of the LEAF to which the QUESTIONS lead."""
    number = 0
    while tree[0] == "ask":
        if is_so(tree[1], boxes, item):
            tree = tree[2]
        else:
            number += count_leaves(tree[2])
            tree = tree[3]
    return number


def leaves_met(machine):
    """For each of STATES the numbers of the LEAVES of its ITEM, and of its END, to which some LIST leads."""
    need_machine(machine)
    patterns, _ = patterns_met(machine)
    trees = trees_of(machine)
    items = {name: [] for name in trees}
    ends = {name: [] for name in trees}
    for name, holds in patterns:
        of_item, of_end = trees[name]
        boxes = dict(zip(machine[1], holds))
        items[name].extend([leaf_number(of_item, boxes, item) for item in items_of(machine[0], holds)])
        ends[name].append(leaf_number(of_end, boxes, None))
    return tuple([(tuple(sorted(set(items[name]))), tuple(sorted(set(ends[name])))) for name in trees])
