"""What of a MACHINE is never come to, never asked in earnest, or kept for nothing; and the MACHINE without it."""

from onlyalike.flows import need_flow, patterns_met
from onlyalike.growth import items_of
from onlyalike.machines import is_so, need_machine, trees_of
from onlyalike.needed import needed_of_all


class Visits:
    """What is come to in the TREEs of a MACHINE: the STATES, and at each SPOT the answers, or the LEAF."""

    def __init__(self, machine):
        self.names = {}
        self.answers = {}
        self.leaves = {}
        trees = trees_of(machine)
        patterns, _ = patterns_met(machine)
        for name, holds in patterns:
            self.names[name] = True
            of_item, of_end = trees[name]
            boxes = dict(zip(machine[1], holds))
            for item in items_of(machine[0], holds):
                self.go_down(name, "item", of_item, boxes, item)
            self.go_down(name, "end", of_end, boxes, None)

    def go_down(self, name, part, tree, boxes, item):
        """Go down a TREE by its questions."""
        path = ()
        while tree[0] == "ask":
            is_yes = is_so(tree[1], boxes, item)
            answer = "yes" if is_yes else "no"
            self.answers.setdefault((name, part, path), {})[answer] = True
            tree = tree[2] if is_yes else tree[3]
            path = (*path, answer)
        self.leaves[(name, part, path)] = True

    def settled_answers(self):
        """The answer to each question that is SETTLED, by its SPOT."""
        return {spot: list(answers)[0] for spot, answers in self.answers.items() if len(answers) == 1}


def unmet(machine):
    """The tuple of the UNMET STATES, in their order."""
    need_machine(machine)
    names = Visits(machine).names
    return tuple([state[0] for state in machine[2] if state[0] not in names])


def settled(machine):
    """The ascending tuple of pairs of a SPOT and the answer, of all SETTLED questions."""
    need_machine(machine)
    return tuple(sorted(list(Visits(machine).settled_answers().items())))


def paths_to_leaves(tree):
    """The ways to all LEAVES of a TREE."""
    if tree[0] != "ask":
        return [()]
    paths = [("yes", *path) for path in paths_to_leaves(tree[2])]
    return [*paths, *[("no", *path) for path in paths_to_leaves(tree[3])]]


def unused(machine):
    """The ascending tuple of the SPOTS of LEAVES that are UNUSED, of STATES that are not UNMET."""
    need_machine(machine)
    visits = Visits(machine)
    spots = []
    for name, item, end in machine[2]:
        if name in visits.names:
            spots.extend([(name, "item", path) for path in paths_to_leaves(item)])
            spots.extend([(name, "end", path) for path in paths_to_leaves(end)])
    return tuple(sorted([spot for spot in spots if spot not in visits.leaves]))


def idle(machine):
    """The ascending tuple of pairs of a STATE and a BOX that is IDLE there."""
    need_machine(machine)
    patterns, flow = patterns_met(machine)
    names = sorted(set([name for name, _ in patterns]))
    busy = {}
    for (name, holds), needed in zip(patterns, needed_of_all(flow)):
        for box, thing in zip(machine[1], holds):
            if thing in needed:
                busy[(name, box)] = True
    return tuple([(name, box) for name in names for box in machine[1] if (name, box) not in busy])


def places_from(flow, p):
    """The numbers of all PLACES to which one comes from a PLACE, itself among them."""
    met = {p: True}
    order = [p]
    at = 0
    while at < len(order):
        for following in sorted(set([turn[1] for turn in flow[1][order[at]][1]])):
            if following not in met:
                met[following] = True
                order.append(following)
        at += 1
    return order


def is_dead(flow, p):
    """Whether a PLACE is DEAD."""
    end = flow[1][p][2]
    if not all([isinstance(part, str) for part in end[1]]):
        return False
    for q in places_from(flow, p):
        if flow[1][q][2] != end or not all([turn[0] == () for turn in flow[1][q][1]]):
            return False
    return True


def dead_places(flow):
    """The ascending tuple of the DEAD PLACES."""
    need_flow(flow)
    return tuple([p for p in range(len(flow[1])) if is_dead(flow, p)])


def cleaned_tree(tree, spot, answers):
    """The TREE at a SPOT without the questions that are SETTLED, and then without those that matter nothing."""
    if tree[0] != "ask":
        return tree
    name, part, path = spot
    _, question, yes, no = tree
    on_yes, on_no = (name, part, (*path, "yes")), (name, part, (*path, "no"))
    answer = answers.get(spot)
    if answer is not None:
        return cleaned_tree(yes, on_yes, answers) if answer == "yes" else cleaned_tree(no, on_no, answers)
    yes = cleaned_tree(yes, on_yes, answers)
    no = cleaned_tree(no, on_no, answers)
    return yes if yes == no else ("ask", question, yes, no)


def cleaned(machine):
    """The CLEANED MACHINE."""
    need_machine(machine)
    visits = Visits(machine)
    answers = visits.settled_answers()
    states = []
    for name, item, end in machine[2]:
        if name in visits.names:
            of_item = cleaned_tree(item, (name, "item", ()), answers)
            states.append((name, of_item, cleaned_tree(end, (name, "end", ()), answers)))
    return machine[0], machine[1], tuple(states)
