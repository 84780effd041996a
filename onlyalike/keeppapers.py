"""PAPERS on how many THINGS, and how many PLACES, each MACHINE that is ALIKE must have; and their check."""

from onlyalike.classes import Classes
from onlyalike.equal import one_to_one
from onlyalike.errors import BadPaper, TooMany
from onlyalike.flows import flow_through, machine_flow, ways_met
from onlyalike.joints import Joints, whole_way
from onlyalike.machines import end_of, gone_through, need_machine, step_of, trees_of
from onlyalike.needed import needed_of_all
from onlyalike.needs import Needs
from onlyalike.things import count_numbers, is_ascending, is_integer, is_one_of, is_plain_list, is_tuple_of

MOST_BEHIND = 20000
MOST_LISTS = 300
MOST_PARTS = 5000


def is_behind(thing, words):
    """Whether anything can be put behind lists: WORDS, and integers from 0 on."""
    if not isinstance(thing, tuple) or len(thing) > MOST_BEHIND:
        return False
    return all([item >= 0 if is_integer(item) else is_one_of(item, words) for item in thing])


def renamed(boxes, names):
    """What the boxes hold if THINGS have other names."""
    return {box: names.get(thing, thing) for box, thing in boxes.items()}


def tell_unlike(trees, one, other, behind):
    """Whether what comes behind two lists tells them apart, each being a STATE and what the boxes hold there."""
    name, boxes = one
    other_name, other_boxes = other
    for item in behind:
        row, name, boxes = step_of(trees, name, boxes, item)
        other_row, other_name, other_boxes = step_of(trees, other_name, other_boxes, item)
        if row != other_row:
            return True
    return end_of(trees, name, boxes) != end_of(trees, other_name, other_boxes)


def in_numbers(items, held, fresh):
    """A GOING ON in the numbers of lists: what is held, and for all that is new numbers from fresh on."""
    out = []
    for item in items:
        if isinstance(item, str):
            out.append(item)
        else:
            out.append(held[item] if item < len(held) else fresh + item - len(held))
    return tuple(out)


def need_row(flow, p, way, left):
    """The triple that shows that a THING of a PLACE, to which a way leads, is NEEDED there."""
    _, _, held = flow_through(flow, way)
    start = (p, p, tuple([(at, at) for at in range(len(held)) if at != left]))
    going = whole_way(flow, flow, start, Joints(flow, flow).faulty_way(start))
    # The first number that is none of the PLACE stands for what the THING is swapped for: the first one for us, too.
    other = count_numbers(way)
    return held[left], other, in_numbers(going, held, other)


def need_paper(machine):
    """A PAPER on the NEED of a MACHINE, with as many ROWS as the NEED tells."""
    need_machine(machine)
    flow = machine_flow(machine, machine[0])
    needed = needed_of_all(flow)
    most = max([len(things) for things in needed])
    p = [len(things) for things in needed].index(most)
    way = ways_met(flow)[p]
    return "need", way, tuple(sorted([need_row(flow, p, way, left) for left in needed[p]]))


def is_need_row(thing, words, items):
    """Whether anything is one of the ROWS by its form."""
    if not is_tuple_of(thing, 3):
        return False
    number, other, behind = thing
    if not is_integer(number) or number not in items:
        return False
    return is_integer(other) and other >= 0 and other not in items and is_behind(behind, words)


def is_need_paper(thing, words):
    """Whether anything is a PAPER on the NEED by its form."""
    if not is_tuple_of(thing, 3) or not is_one_of(thing[0], ("need",)) or not is_plain_list(words, thing[1]):
        return False
    _, items, rows = thing
    if not isinstance(rows, tuple) or not all([is_need_row(row, words, items) for row in rows]):
        return False
    return is_ascending([row[0] for row in rows])


def check_need(machine, paper):
    """How many ROWS a PAPER has that holds; BadPaper of one that does not."""
    need_machine(machine)
    if not is_need_paper(paper, machine[0]):
        raise BadPaper("form")
    trees = trees_of(machine)
    _, name, boxes = gone_through(machine, paper[1])
    for number, other, behind in paper[2]:
        # As the MACHINE only asks what is alike, it stands behind the other list as here, but for this name.
        if not tell_unlike(trees, (name, boxes), (name, renamed(boxes, {number: other})), behind):
            raise BadPaper("row")
    return len(paper[2])


def pairs_of(ones, others):
    """All PAIRS of all numbers of the one list with as many of the other one, ascending."""
    return one_to_one(sorted(ones), sorted(others))


def count_pairs(needed):
    """How many (A, B, PAIRS) there are of lists behind which these numbers are NEEDED."""
    total = 0
    for b, others in enumerate(needed):
        alike = [ones for ones in needed[:b] if len(ones) == len(others)]
        total += len(alike) * len(pairs_of(others, others))
    return total


def wanted_pairs(needed):
    """These (A, B, PAIRS), ascending."""
    out = []
    for a, ones in enumerate(needed):
        for b in range(a + 1, len(needed)):
            if len(ones) == len(needed[b]):
                out.extend([(a, b, pairs) for pairs in pairs_of(ones, needed[b])])
    return out


def part_with(classes, one, other, pairs):
    """What comes behind two lists and shows that their PLACES do not match so.

    Each of both is told by its PLACE, by what is NEEDED there, and by how many numbers the list has.
    """
    p, needed, many = one
    q, other_needed, other_many = other
    start = (p, q, tuple(sorted([(needed.index(first), other_needed.index(second)) for first, second in pairs])))
    flow = classes.flow
    going = whole_way(flow, flow, start, Joints(flow, flow).faulty_way(start))
    return in_numbers(going, needed, many + other_many - len(pairs))


def classes_paper(machine):
    """A PAPER on the CLASSES of a MACHINE, with as many LISTS as there are CLASSES."""
    need_machine(machine)
    flow = machine_flow(machine, machine[0])
    classes = Classes(flow)
    ways = ways_met(flow)
    lists = []
    ends = []
    for p, number in enumerate(classes.order):
        # The FLOW of classes has no TURNS for what is not NEEDED, so some of its PLACES may not be met there.
        if classes.firsts[p] == p:
            _, _, held = flow_through(flow, ways[number])
            lists.append(ways[number])
            ends.append((p, [held[thing] for thing in classes.needed[p]], count_numbers(ways[number])))
    needed = [numbers for _, numbers, _ in ends]
    if count_pairs(needed) > MOST_PARTS:
        raise TooMany(MOST_PARTS)
    parts = [(a, b, pairs, part_with(classes, ends[a], ends[b], pairs)) for a, b, pairs in wanted_pairs(needed)]
    return "classes", tuple(lists), tuple(parts)


def are_pairs(thing):
    """Whether anything is a tuple of pairs of integers."""
    if not isinstance(thing, tuple) or not all([is_tuple_of(pair, 2) for pair in thing]):
        return False
    return all([is_integer(first) and is_integer(second) for first, second in thing])


def is_part(thing, words):
    """Whether anything is one of PARTS by its form."""
    if not is_tuple_of(thing, 4):
        return False
    a, b, pairs, behind = thing
    return is_integer(a) and is_integer(b) and are_pairs(pairs) and is_behind(behind, words)


def is_classes_paper(thing, words):
    """Whether anything is a PAPER on the CLASSES by its form."""
    if not is_tuple_of(thing, 3) or not is_one_of(thing[0], ("classes",)):
        return False
    _, lists, parts = thing
    if not isinstance(lists, tuple) or len(lists) > MOST_LISTS:
        return False
    if not isinstance(parts, tuple) or len(parts) > MOST_PARTS:
        return False
    return all([is_plain_list(words, items) for items in lists]) and all([is_part(part, words) for part in parts])


def needed_numbers(flow, lists):
    """The numbers that are NEEDED behind each of LISTS; TooMany if they are too many to be put in all orders."""
    if len(lists) < 2:
        return []
    needs = Needs(flow)
    out = []
    for items in lists:
        _, p, held = flow_through(flow, items)
        out.append([held[thing] for thing in needs.few_at(p)])
    return out


def other_names(size, other_size, pairs):
    """The common number of each number of the list B."""
    names = {second: first for first, second in pairs}
    fresh = size
    for number in range(other_size):
        if number not in names:
            names[number] = fresh
            fresh += 1
    return names


def check_classes(machine, paper):
    """How many LISTS a PAPER has that holds; BadPaper of one that does not."""
    need_machine(machine)
    if not is_classes_paper(paper, machine[0]):
        raise BadPaper("form")
    _, lists, parts = paper
    needed = needed_numbers(machine_flow(machine, machine[0]), lists)
    if len(parts) != count_pairs(needed) or [part[:3] for part in parts] != wanted_pairs(needed):
        raise BadPaper("pairs")
    trees = trees_of(machine)
    behind_all = [gone_through(machine, items)[1:] for items in lists]
    for a, b, pairs, behind in parts:
        name, boxes = behind_all[b]
        names = other_names(count_numbers(lists[a]), count_numbers(lists[b]), pairs)
        if not tell_unlike(trees, behind_all[a], (name, renamed(boxes, names)), behind):
            raise BadPaper("part")
    return len(lists)
