"""REFS, TESTS, CONDITIONS and FILTERS for the tests: what they tell, SPOT by SPOT by the document's words, and some of them."""


def told_by(ref, things, at):
    """What a REF tells at a SPOT, or at the one behind the last item; None if it tells none."""
    if ref[0] == "now":
        return things[at]
    if ref[0] == "back":
        return things[at - ref[1]] if at >= ref[1] else None
    if ref[0] == "first":
        return things[0] if things else None
    for ahead in reversed(range(at)):
        if is_so(ref[1], things, ahead):
            return things[ahead]
    return None


def is_so(test, things, at):
    """Whether a TEST is so at a SPOT."""
    head = test[0]
    if head == "like":
        one, other = told_by(test[1], things, at), told_by(test[2], things, at)
        return one is not None and other is not None and one == other
    if head == "is":
        return told_by(test[1], things, at) == test[2]
    if head == "none":
        return told_by(test[1], things, at) is None
    if head == "not":
        return not is_so(test[1], things, at)
    if head == "and":
        return all(is_so(part, things, at) for part in test[1])
    if head == "or":
        return any(is_so(part, things, at) for part in test[1])
    if head == "once":
        return any(is_so(test[1], things, lesser) for lesser in range(at + 1))
    return at > 0 and is_so(test[1], things, at - 1)


def holds(condition, things):
    """Whether a CONDITION holds of a list."""
    head = condition[0]
    if head == "not":
        return not holds(condition[1], things)
    if head == "and":
        return all(holds(part, things) for part in condition[1])
    if head == "or":
        return any(holds(part, things) for part in condition[1])
    spots = [at for at in range(len(things)) if is_so(condition[-1], things, at)]
    if head == "some":
        return spots != []
    if head == "all":
        return len(spots) == len(things)
    if head == "end":
        return things != () and len(things) - 1 in spots
    if head == "least":
        return len(spots) >= condition[1]
    return len(spots) % condition[1] == condition[2]


def sifted(sieve, things):
    """The BEHAVIOUR of a FILTER."""
    choices, last = sieve

    def told(row, at):
        out = [part[1] if part[0] == "word" else told_by(part, things, at) for part in row]
        return tuple(x for x in out if x is not None)

    rows = []
    for at in range(len(things)):
        fitting = [row for test, row in choices if is_so(test, things, at)]
        rows.append(told(fitting[0], at) if fitting else ())
    return tuple(rows), "yes", told(last, len(things))


def some_ref(chance, deep):
    if deep > 2 and chance.random() < 0.35:
        return "last", some_test(chance, deep - 1)
    return chance.choice((("now",), ("now",), ("back", 1), ("back", 2), ("back", 3), ("first",)))


def some_test(chance, deep):
    """Some TEST, so deep at most; deep is 2 at least."""
    if deep < 3 or chance.random() < 0.5:
        word = chance.choice("ab")
        return chance.choice((("like", some_ref(chance, deep - 1), some_ref(chance, deep - 1)),
                              ("like", ("now",), some_ref(chance, deep - 1)), ("is", some_ref(chance, deep - 1), word),
                              ("is", ("now",), word), ("none", some_ref(chance, deep - 1)), ("and", ()), ("or", ())))
    head = chance.choice(("not", "and", "or", "once", "ahead"))
    if head in ("and", "or"):
        return head, tuple(some_test(chance, deep - 1) for _ in range(chance.randint(1, 2)))
    return head, some_test(chance, deep - 1)


def some_condition(chance, deep):
    """Some CONDITION, so deep at most; deep is 3 at least."""
    if deep < 4 or chance.random() < 0.6:
        modulus = chance.randint(2, 4)
        test = some_test(chance, deep - 1)
        return chance.choice((("some", test), ("all", test), ("end", test), ("least", chance.randint(1, 4), test),
                              ("rest", modulus, chance.randrange(modulus), test)))
    head = chance.choice(("not", "and", "or"))
    if head == "not":
        return head, some_condition(chance, deep - 1)
    return head, tuple(some_condition(chance, deep - 1) for _ in range(chance.randint(0, 2)))


def some_row(chance, barred=()):
    parts = [part for part in (("word", "a"), ("word", "c"), *(some_ref(chance, 4) for _ in range(4))) if part not in barred]
    return tuple(chance.choice(parts) for _ in range(chance.randint(0, 3)) if parts)


def some_filter(chance):
    """Some FILTER."""
    choices = tuple((some_test(chance, chance.randint(2, 4)), some_row(chance)) for _ in range(chance.randint(1, 4)))
    return choices, some_row(chance, (("now",),))


def deep_test(deep):
    """A TEST that is so deep; it has as many TESTS and REFS in it."""
    if deep == 1:
        return "and", ()
    if deep == 2:
        return "none", ("back", 1)
    return "not", deep_test(deep - 1)


AND, OR = ("and", ()), ("or", ())
# TESTS with eight unlike ("last", ..) together, one within another one in each; and one with one more.
EIGHT_LASTS = tuple(("none", ("last", ("none", ("last", inner)))) for inner in (AND, OR, ("once", AND), ("ahead", AND)))
NINTH_LAST = ("none", ("last", ("once", OR)))
# TESTS that keep eight THINGS in all three ways; and one with one more.
EIGHT_KEPT = (("like", ("back", 3), ("first",)), ("like", ("last", AND), ("last", OR)),
              ("like", ("last", ("not", AND)), ("last", ("not", OR))))
NINTH_KEPT = ("none", ("last", ("once", AND)))


def asks_words(many):
    """TESTS with so many unlike WORDS."""
    return tuple(("is", ("now",), "abcdefgh"[at]) for at in range(many))
