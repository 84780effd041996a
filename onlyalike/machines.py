"""MACHINES: what one is by its form, and how it goes through a LIST."""

from onlyalike.errors import BadMachine, BadVerdict
from onlyalike.things import are_words, is_one_of, is_tuple_of, is_word, need_list

MOST_OWN_WORDS = 4
MOST_BOXES = 8
MOST_STATES = 80
MOST_DEEP = 24
MOST_TOLD = 9
MOST_DEEDS = 8

# Each form is its first word, and behind it of what kind each further part is.
ITEM_QUESTIONS = (
    ("item", "box"), ("word", "word"), ("empty", "box"), ("like", "box", "box"), ("holds", "box", "word"),
)
END_QUESTIONS = (("empty", "box"), ("like", "box", "box"), ("holds", "box", "word"))
ITEM_TOLD = (("item",), ("box", "box"), ("word", "word"))
END_TOLD = (("box", "box"), ("word", "word"))
DEED_FORMS = (("keep", "box"), ("copy", "box", "box"), ("empty", "box"))
VERDICTS = ("yes", "no")


def fits(thing, form, known):
    """Whether a tuple has one form, with the WORDS and BOXES that are known."""
    if len(thing) != len(form) or not is_one_of(thing[0], form[:1]):
        return False
    words, boxes, _ = known
    return all([is_one_of(part, words if kind == "word" else boxes) for part, kind in zip(thing[1:], form[1:])])


def has_form(thing, forms, known):
    """Whether anything has one of the forms."""
    return isinstance(thing, tuple) and any([fits(thing, form, known) for form in forms])


def have_forms(thing, most, forms, known):
    """Whether anything is a tuple of at most so many things, each of one of the forms."""
    if not isinstance(thing, tuple) or len(thing) > most:
        return False
    return all([has_form(part, forms, known) for part in thing])


def are_deeds(thing, known):
    """Whether anything is DEEDS: no two of them may change the same box, the last part of each."""
    if not have_forms(thing, MOST_DEEDS, DEED_FORMS, known):
        return False
    return len(set([deed[-1] for deed in thing])) == len(thing)


def is_item_leaf(thing, known):
    """Whether anything is a LEAF of an ITEM."""
    if not is_tuple_of(thing, 4) or not is_one_of(thing[0], ("go",)):
        return False
    _, deeds, row, name = thing
    return are_deeds(deeds, known) and have_forms(row, MOST_TOLD, ITEM_TOLD, known) and is_one_of(name, known[2])


def is_end_leaf(thing, known):
    """Whether anything is a LEAF of an END."""
    if not is_tuple_of(thing, 3) or not is_one_of(thing[0], ("end",)):
        return False
    return is_one_of(thing[1], VERDICTS) and have_forms(thing[2], MOST_TOLD, END_TOLD, known)


def is_tree(thing, of_item, known, deep):
    """Whether anything is a TREE, of an ITEM or of an END, with deep - 1 questions above it."""
    if deep > MOST_DEEP:
        return False
    if is_tuple_of(thing, 4) and is_one_of(thing[0], ("ask",)):
        _, question, yes, no = thing
        asked = has_form(question, ITEM_QUESTIONS if of_item else END_QUESTIONS, known)
        return asked and is_tree(yes, of_item, known, deep + 1) and is_tree(no, of_item, known, deep + 1)
    return is_item_leaf(thing, known) if of_item else is_end_leaf(thing, known)


def names_fault(states):
    """The place of the first of STATES that has no name of its own, or None."""
    names = {}
    for at, state in enumerate(states):
        if not is_tuple_of(state, 3) or not is_word(state[0]) or state[0] in names:
            return (2, at)
        names[state[0]] = True
    return None


def trees_fault(words, boxes, states):
    """The place of the first TREE of STATES that is none, or None."""
    known = (words, boxes, tuple([state[0] for state in states]))
    for at, state in enumerate(states):
        if not is_tree(state[1], True, known, 1):
            return (2, at, 1)
        if not is_tree(state[2], False, known, 1):
            return (2, at, 2)
    return None


def machine_fault(thing):
    """The place at which anything is no MACHINE, or None of one."""
    if not is_tuple_of(thing, 3):
        return ()
    words, boxes, states = thing
    if not are_words(words, MOST_OWN_WORDS):
        return (0,)
    if not are_words(boxes, MOST_BOXES):
        return (1,)
    if not isinstance(states, tuple) or not 1 <= len(states) <= MOST_STATES:
        return (2,)
    return names_fault(states) or trees_fault(words, boxes, states)


def need_machine(thing):
    """The MACHINE itself; BadMachine of what is none."""
    place = machine_fault(thing)
    if place is not None:
        raise BadMachine(place)
    return thing


def need_verdict(thing):
    """The VERDICT itself; BadVerdict of what is none."""
    if not is_one_of(thing, VERDICTS):
        raise BadVerdict(thing)
    return thing


def trees_of(machine):
    """The pair of TREEs of each STATE, by its NAME."""
    return {name: (item, end) for name, item, end in machine[2]}


def is_so(question, boxes, item):
    """The answer to a QUESTION; boxes tell what each box holds, None if it is empty."""
    head = question[0]
    if head == "item":
        return boxes[question[1]] == item
    if head == "word":
        return item == question[1]
    if head == "empty":
        return boxes[question[1]] is None
    if head == "like":
        return boxes[question[1]] is not None and boxes[question[1]] == boxes[question[2]]
    return boxes[question[1]] == question[2]


def leaf_of(tree, boxes, item):
    """The LEAF to which the QUESTIONS lead."""
    while tree[0] == "ask":
        tree = tree[2] if is_so(tree[1], boxes, item) else tree[3]
    return tree


def told_by(row, boxes, item):
    """The THINGS that a ROW tells."""
    out = []
    for part in row:
        if part[0] == "item":
            out.append(item)
        elif part[0] == "word":
            out.append(part[1])
        elif boxes[part[1]] is not None:
            out.append(boxes[part[1]])
    return tuple(out)


def boxes_behind(deeds, boxes, item):
    """What the boxes hold behind DEEDS, all of which are done at once."""
    out = dict(boxes)
    for deed in deeds:
        if deed[0] == "keep":
            out[deed[1]] = item
        elif deed[0] == "copy":
            out[deed[2]] = boxes[deed[1]]
        else:
            out[deed[1]] = None
    return out


def step_of(trees, name, boxes, item):
    """What is told at an item, and the STATE and the boxes behind it."""
    _, deeds, row, following = leaf_of(trees[name][0], boxes, item)
    return told_by(row, boxes, item), following, boxes_behind(deeds, boxes, item)


def end_of(trees, name, boxes):
    """VERDICT and row of a list that ends here."""
    _, verdict, row = leaf_of(trees[name][1], boxes, None)
    return verdict, told_by(row, boxes, None)


def gone_through(machine, things):
    """The rows that are told for THINGS, however many, and the STATE and the boxes behind them."""
    trees = trees_of(machine)
    name = machine[2][0][0]
    boxes = {box: None for box in machine[1]}
    rows = []
    for item in things:
        row, name, boxes = step_of(trees, name, boxes, item)
        rows.append(row)
    return rows, name, boxes


def told_of(machine, things):
    """The BEHAVIOUR of THINGS, however many they are."""
    rows, name, boxes = gone_through(machine, things)
    verdict, last = end_of(trees_of(machine), name, boxes)
    return tuple(rows), verdict, last


def kept_things(words, held):
    """The THINGS besides WORDS in boxes, as one comes to them."""
    out = []
    for thing in held:
        if thing is not None and thing not in words and thing not in out:
            out.append(thing)
    return out


def holds_of(words, held):
    """The HOLDS of a PATTERN of what the boxes hold, in their order."""
    kept = kept_things(words, held)
    return tuple([thing if thing is None or thing in words else kept.index(thing) for thing in held])


def behaviour_for(machine, things):
    """The BEHAVIOUR of a MACHINE for a LIST."""
    need_machine(machine)
    need_list(things)
    return told_of(machine, things)


def pattern_behind(machine, things):
    """The PATTERN of a MACHINE behind a LIST."""
    need_machine(machine)
    need_list(things)
    _, name, boxes = gone_through(machine, things)
    return name, holds_of(machine[0], [boxes[box] for box in machine[1]])
