"""Things, MACHINES and FLOWS that several tests use, and a second way of going through lists."""

import random


class Agrees:
    """An object that says of itself that it equals anything."""

    __hash__ = None

    def __eq__(self, other):
        return True


class Plain:
    """An object without anything."""


YES = ("yes", ())


def wrong_things():
    """Things of many kinds; none of them is an integer, a string or a tuple."""
    return [True, False, None, b"a", [], [1], {}, {"a": 1}, set(), {1}, frozenset(), len, lambda: 1, Plain(), Agrees(),
            Plain, range(2), 2j]


def go(row=(), deeds=(), name="on"):
    return "go", deeds, row, name


def end(verdict="yes", row=()):
    return "end", verdict, row


def ask(question, yes, no):
    return "ask", question, yes, no


def one_state(item, ending=None, words=(), boxes=()):
    """A MACHINE with the one STATE "on"."""
    return words, boxes, (("on", item, ending or end()),)


def chain(many, leaf, question):
    """A TREE that is so deep, with the next question behind each NO."""
    tree = leaf
    for _ in range(many - 1):
        tree = ask(question, leaf, tree)
    return tree


# Tells "same" when the item is like the one ahead.
NEIGHBOUR = one_state(
    ask(("item", "last"), go((("word", "same"),)), go((), (("keep", "last"),))), None, ("same",), ("last",))

NEIGHBOUR_FLOW = (("same",), (
    (0, (((), 1, ()), ((), 2, (None,))), ("yes", ())),
    (0, ((("same",), 1, ()), ((), 2, (None,))), ("yes", ())),
    (1, (((), 1, ()), (("same",), 2, (0,)), ((), 2, (None,))), ("yes", ())),
))

# The same in other words: two states, another box, a needless box and a needless question.
NEIGHBOUR_TOO = (
    ("same",), ("spare", "x"), (
        ("first", go((), (("keep", "x"), ("keep", "spare")), "later"), end()),
        ("later", ask(("item", "x"),
                      ask(("empty", "x"), go((), (), "first"), go((("word", "same"),), (), "later")),
                      go((), (("keep", "x"), ("copy", "x", "spare")), "later")), end()),
    ))

# Keeps the first two unlike items, tells each item that is like one of them, and both at the end, in their order.
FIRST_TWO = one_state(
    ask(("empty", "a"), go((), (("keep", "a"),)),
        ask(("item", "a"), go((("item",),)),
            ask(("empty", "b"), go((), (("keep", "b"),)),
                ask(("item", "b"), go((("item",),)), go())))),
    end("yes", (("box", "a"), ("box", "b"))), (), ("a", "b"))


def ring(many, word, words, refused=()):
    """A FLOW without things that counts how often a WORD came, modulo many; it says "no" at some PLACES."""
    places = []
    for at in range(many):
        turns = [((), (at + 1) % many if kind == word else at, ()) for kind in words]
        places.append((0, (*turns, ((), at, ())), ("no" if at in refused else "yes", ())))
    return words, tuple(places)


def ring_machine(many, word, words, refused=()):
    """The same as a MACHINE, of at most 80 STATES."""
    names = ["s" + "abcdefghij"[at // 10] + "abcdefghij"[at % 10] for at in range(many)]
    states = [(names[at],
               ask(("word", word), go((), (), names[(at + 1) % many]), go((), (), names[at])),
               end("no" if at in refused else "yes")) for at in range(many)]
    return words, (), tuple(states)


def wide_machine(rounds, sink):
    """A MACHINE whose FLOW has 4 PLACES for each of its rounds, and one more if there is a sink."""
    names = ["s" + "abcdefghij"[at // 10] + "abcdefghij"[at % 10] for at in range(rounds)]
    states = []
    for at, name in enumerate(names):
        on = names[(at + 1) % rounds]
        keep = (("keep", "x"),)
        none = go((), (("empty", "x"),), name)
        if sink and at == 0:
            none = ask(("empty", "x"), go((), (), "sink"), none)
        tree = ask(("word", "a"), go((), keep, name), ask(("word", "b"), go((), keep, name), ask(
            ("word", "c"), none, go((), keep, on))))
        states.append((name, tree, end()))
    if sink:
        states.append(("sink", go((), (), "sink"), end()))
    return ("a", "b", "c"), ("x",), tuple(states)


def slow_rings(machine_words=("a", "b")):
    """A MACHINE that keeps the first item, and behind the second one goes through one ring of PLACES or another one.

    What it tells is never otherwise, but one needs 140 times 152 JOINTS to see this.
    """
    def ring_states(letter, word, many):
        names = [letter + "abcdefghij"[at // 10] + "abcdefghij"[at % 10] for at in range(many)]
        states = []
        for at, name in enumerate(names):
            on = go((), (("empty", "y"), ("empty", "z")), names[(at + 1) % many])
            third = ask(("empty", "y"), go((), (("keep", "y"),), name), on)
            tree = ask(("empty", "z"), ask(("empty", "y"), go((), (("keep", "y"),), name), go(
                (), (("empty", "y"), ("keep", "z")), name)), third)
            states.append((name, ask(("word", word), tree, go((), (), name)), end()))
        return states

    gone = (("empty", "x"),)
    return machine_words, ("x", "y", "z"), (
        ("first", ask(("word", "a"), go((), (), "first"), ask(("word", "b"), go((), (), "first"), go(
            (), (("keep", "x"),), "second"))), end()),
        ("second", ask(("item", "x"), go((), gone, "oaa"), go((), gone, "taa")), end()),
        *ring_states("o", "a", 35), *ring_states("t", "b", 38))


def asks(many, told):
    """A FLOW that keeps so many things, the first unlike ones, and tells "w" of those whose number is told so."""
    places = []
    for kept in range(many + 1):
        same = tuple(range(kept))
        turns = [((), kept, same)]
        turns += [((("w",) if kept == many and at in told else ()), kept, same) for at in range(kept)]
        turns.append(((), kept + 1, (*same, None)) if kept < many else ((), kept, same))
        places.append((kept, tuple(turns), YES))
    return ("w",), tuple(places)


def plain_lists(words, many):
    """All PLAIN LISTS of WORDS with at most so many items, the shorter ones ahead."""
    layer = [((), 0)]
    out = [()]
    for _ in range(many):
        layer = [((*items, item), max(fresh, item + 1) if isinstance(item, int) else fresh)
                 for items, fresh in layer for item in [*words, *range(fresh + 1)]]
        out.extend(items for items, _ in layer)
    return out


def going_ons(words, known, most):
    """All tuples of at most so many WORDS, numbers below known, and further numbers by first coming."""
    layer = [((), known)]
    out = [()]
    for _ in range(most):
        layer = [((*items, item), fresh + (item == fresh)) for items, fresh in layer for item in [*words, *range(fresh + 1)]]
        out.extend(items for items, _ in layer)
    return out


def summed(behaviour):
    """All that is told, joined, and the VERDICT."""
    rows, verdict, last = behaviour
    return sum(rows, ()) + last, verdict


def read(flow, place, held, items):
    """What a FLOW tells of items from a PLACE on, and where it stands behind them."""
    words, places = flow
    told = []
    for item in items:
        many, turns, _ = places[place]
        kinds = [*words, *held]
        row, place, origins = turns[kinds.index(item) if item in kinds else len(words) + many]
        told += [item if x is None else x if isinstance(x, str) else held[x] for x in row]
        held = [item if x is None else held[x] for x in origins]
    return told, place, held


def told_from(flow, place, held, items):
    """What a FLOW tells of items from a PLACE on where the THINGS are held, by their names."""
    rows = []
    for item in items:
        row, place, held = read(flow, place, held, [item])
        rows.append(tuple(row))
    verdict, last = flow[1][place][2]
    return tuple(rows), verdict, tuple(x if isinstance(x, str) else held[x] for x in last)


def small_machine(chance):
    """Some MACHINE with at most two WORDS, BOXES and STATES."""
    words = tuple(word for word in ("a", "b") if chance.random() < 0.5)
    boxes = ("p", "q")[:chance.randint(0, 2)]
    names = ("one", "two")[:chance.randint(1, 2)]

    def question(of_item):
        forms = []
        if boxes:
            forms += [("empty", chance.choice(boxes)), ("like", chance.choice(boxes), chance.choice(boxes))]
        if boxes and of_item:
            forms += [("item", chance.choice(boxes))] * 4
        if boxes and words:
            forms.append(("holds", chance.choice(boxes), chance.choice(words)))
        if words and of_item:
            forms += [("word", chance.choice(words))] * 2
        return chance.choice(forms) if forms else None

    def row(of_item):
        forms = [("item",)] if of_item else []
        forms += [("box", box) for box in boxes] + [("word", word) for word in words]
        return tuple(chance.choice(forms) for _ in range(chance.choice((0, 0, 1, 1, 2))) if forms)

    def deeds():
        out = []
        for box in boxes:
            form = chance.choice((None, None, ("keep", box), ("copy", chance.choice(boxes), box), ("empty", box)))
            out += [form] if form else []
        return tuple(out)

    def tree(of_item, deep):
        asked = question(of_item) if deep < 3 and chance.random() < 0.6 else None
        if asked:
            return ask(asked, tree(of_item, deep + 1), tree(of_item, deep + 1))
        if of_item:
            return go(row(True), deeds(), chance.choice(names))
        return end(chance.choice(("yes", "yes", "no")), row(False))

    return words, boxes, tuple((name, tree(True, 1), tree(False, 1)) for name in names)


def less_told(chance, machine):
    """The MACHINE with a row or the DEEDS of some LEAF cut short."""
    def cut(tree):
        if tree[0] == "ask":
            at = chance.choice((2, 3))
            return tree[:at] + (cut(tree[at]),) + tree[at + 1:]
        if tree[0] == "go":
            return chance.choice((go(tree[2][1:], tree[1], tree[3]), go(tree[2], tree[1][1:], tree[3])))
        return end(tree[1], tree[2][1:])

    words, boxes, states = machine
    at = chance.randrange(len(states))
    name, item, ending = states[at]
    item, ending = chance.choice(((cut(item), ending), (item, cut(ending))))
    return words, boxes, states[:at] + ((name, item, ending),) + states[at + 1:]


def first_ones(many):
    """A FLOW that keeps so many items if they are unlike, tells all items, and says "yes" if the last one is one of these."""
    gone = many + 2
    places = []
    for kept in range(many):
        same = tuple(range(kept))
        places.append((kept, tuple(((at,), gone, ()) for at in same) + (((None,), kept + 1, (*same, None)),), ("no", ())))
    same = tuple(range(many))
    turns = tuple(((at,), many + 1, same) for at in same) + (((None,), many, same),)
    places += [(many, turns, ("no", ())), (many, turns, ("yes", ())), (0, (((None,), gone, ()),), ("no", ()))]
    return (), tuple(places)


def one_behind(many):
    """A FLOW that keeps the item behind so many, tells all items, and says "yes" if the last one is like this one."""
    places = [(0, (((None,), at + 1, ()),), ("no", ())) for at in range(many)]
    turns = (((0,), many + 2, (0,)), ((None,), many + 1, (0,)))
    places += [(0, (((None,), many + 1, (None,)),), ("no", ())), (1, turns, ("no", ())), (1, turns, ("yes", ()))]
    return (), tuple(places)


def small_flow(chance, most_places=5, most_many=2):
    """Some FLOW, also with PLACES to which none leads, and with THINGS that are not NEEDED."""
    words = tuple(word for word in ("a", "b") if chance.random() < 0.4)
    many = [0] + [chance.randint(0, most_many) for _ in range(chance.randint(0, most_places - 1))]

    def row(kept, new):
        parts = [*words, *range(kept), *([None, None] if new else [])]
        return tuple(chance.choice(parts) for _ in range(chance.choice((0, 0, 0, 1, 2))) if parts)

    def turn(kept, new):
        sources = [*range(kept), *([None] if new else [])]
        number = chance.choice([at for at, size in enumerate(many) if size <= len(sources)])
        return row(kept, new), number, tuple(chance.sample(sources, many[number]))

    def place(kept):
        turns = [turn(kept, False) for _ in range(len(words) + kept)]
        for at in range(len(turns)):
            # Many of them like one another, so that some THINGS and PLACES are of no account.
            if chance.random() < 0.5:
                turns[at] = chance.choice(turns)
        return kept, (*turns, turn(kept, True)), (chance.choice(("yes", "yes", "no")), row(kept, False))

    return words, tuple(place(kept) for kept in many)


def shuffled(chance, flow, more=0):
    """The same FLOW with its PLACES, but for the first one, and their THINGS in some other order.

    Each of the other PLACES keeps up to so many more THINGS, that are of no account, and stands there twice.
    """
    words, places = flow
    copies = [(0, 0)] + [(p, which) for p in range(1, len(places)) for which in range(2 if more else 1)]
    tail = copies[1:]
    chance.shuffle(tail)
    copies = [copies[0], *tail]
    sizes = [places[p][0] + (chance.randint(0, more) if at else 0) for at, (p, _) in enumerate(copies)]
    names = [chance.sample(range(size), places[p][0]) for size, (p, _) in zip(sizes, copies)]

    def turn(at, old, kind):
        row, following, origins = old
        number = chance.choice([n for n, (p, _) in enumerate(copies) if p == following])
        used = [None if x is None else names[at][x] for x in origins]
        spare = [x for x in [*range(sizes[at]), *([None] if kind is None else [])] if x not in used]
        chance.shuffle(spare)
        out = [None] * sizes[number]
        for x in range(sizes[number]):
            out[x] = used[names[number].index(x)] if x in names[number] else (spare.pop() if spare else "short")
        if "short" in out:
            return None
        return tuple(x if x is None or isinstance(x, str) else names[at][x] for x in row), number, tuple(out)

    new = []
    for at, (p, _) in enumerate(copies):
        many, turns, (verdict, last) = places[p]
        made = [turn(at, old, "word") for old in turns[:len(words)]]
        for x in range(sizes[at]):
            if x in names[at]:
                made.append(turn(at, turns[len(words) + names[at].index(x)], "thing"))
            else:
                # It turns as NEW does, but that what is told, or kept, is this THING.
                told = turn(at, turns[-1], None)
                made.append(told and (tuple(x if y is None else y for y in told[0]), told[1],
                                      tuple(x if y is None else y for y in told[2])))
                if made[-1] and len(set(made[-1][2])) < len(made[-1][2]):
                    made[-1] = None
        made.append(turn(at, turns[-1], None))
        if None in made:
            return shuffled(chance, flow, more)
        new.append((sizes[at], tuple(made), (verdict, tuple(x if isinstance(x, str) else names[at][x] for x in last))))
    return words, tuple(new)


def machine_pairs(seed, many):
    """Pairs of small MACHINES, the same ones for the same seed; many of them are almost the same."""
    chance = random.Random(seed)
    out = []
    while len(out) < many:
        one = small_machine(chance)
        out.append((one, chance.choice((less_told(chance, one), less_told(chance, one), small_machine(chance)))))
    return out
