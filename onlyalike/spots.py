"""REFS, TESTS and CONDITIONS by their form, and what REFS and TESTS tell at the SPOTS of a list, by definition."""

from onlyalike.things import is_integer, is_one_of, is_word

MOST_DEEP = 8
MOST_KEPT = 8
MOST_ASKED_WORDS = 4

# Each form is its first word, and behind it of what kind each further part is.
FORMS = {
    "ref": (("now",), ("back", "back"), ("first",), ("last", "test")),
    "test": (("like", "ref", "ref"), ("is", "ref", "word"), ("none", "ref"), ("not", "test"), ("and", "tests"),
             ("or", "tests"), ("once", "test"), ("ahead", "test")),
    "condition": (("some", "test"), ("all", "test"), ("end", "test"), ("least", "least", "test"),
                  ("rest", "modulus", "rest", "test"), ("not", "condition"), ("and", "conditions"),
                  ("or", "conditions")),
}
TUPLES = {"tests": "test", "conditions": "condition"}
NUMBERS = {"back": (1, 3), "least": (1, 4), "modulus": (2, 4), "rest": (0, 3)}


class Form:
    """Looks through REFS, TESTS and CONDITIONS, so many of them at most, and keeps what they have in them."""

    def __init__(self, most):
        self.left = most
        self.words = {}
        # The greatest K of ("back", K); 1 if there is a ("first",); the unlike ("last", ..).
        self.backs = 0
        self.firsts = 0
        self.lasts = []

    def kept(self):
        """How many THINGS are kept by the form."""
        return self.backs + self.firsts + len(self.lasts)

    def is_bounded(self):
        """Whether no more is kept by the form, and no more WORDS are asked for, than may be."""
        return self.kept() <= MOST_KEPT and len(self.words) <= MOST_ASKED_WORDS

    def is_one(self, thing, kind, deep):
        """Whether anything is of one of the kinds in FORMS, and so deep at most."""
        self.left -= 1
        if self.left < 0 or deep < 1 or not isinstance(thing, tuple) or len(thing) == 0:
            return False
        for form in FORMS[kind]:
            if is_one_of(thing[0], form[:1]) and len(thing) == len(form):
                parts = [self.is_part(part, what, deep - 1) for part, what in zip(thing[1:], form[1:])]
                return all(parts) and self.is_noted(thing)
        return False

    def is_part(self, thing, what, deep):
        """Whether anything is a part of the kind that a form tells."""
        if what in FORMS:
            return self.is_one(thing, what, deep)
        if what in TUPLES:
            kind = TUPLES[what]
            return isinstance(thing, tuple) and all([self.is_one(part, kind, deep) for part in thing])
        if what == "word":
            return is_word(thing)
        low, high = NUMBERS[what]
        return is_integer(thing) and low <= thing <= high

    def is_noted(self, thing):
        """Whether the parts of what has a form go together; what it keeps and asks for is noted."""
        if thing[0] == "rest":
            return thing[2] < thing[1]
        if thing[0] == "back":
            self.backs = max(self.backs, thing[1])
        elif thing[0] == "first":
            self.firsts = 1
        elif thing[0] == "last":
            if thing not in self.lasts:
                self.lasts.append(thing)
        elif thing[0] == "is":
            self.words[thing[2]] = True
        return True


class Spots:
    """The SPOTS of a list, at which REFS and TESTS are looked at."""

    def __init__(self, things):
        self.things = list(things)

    def told_by(self, ref):
        """What a REF tells at each SPOT, and at the one behind the last item; None where it tells none."""
        many = len(self.things)
        if ref[0] == "now":
            return [*self.things, None]
        if ref[0] == "back":
            return ([None] * ref[1] + self.things)[:many + 1]
        if ref[0] == "first":
            return self.things[:1] * (many + 1) if many > 0 else [None]
        out = [None]
        for thing, is_so in zip(self.things, self.so_at(ref[1])):
            out.append(thing if is_so else out[-1])
        return out

    def so_at(self, test):
        """For each SPOT whether a TEST is so there."""
        many = len(self.things)
        head = test[0]
        if head in ("like", "is", "none"):
            told = self.told_by(test[1])[:many]
            if head == "none":
                return [thing is None for thing in told]
            if head == "is":
                return [thing == test[2] for thing in told]
            other = self.told_by(test[2])
            return [thing is not None and thing == other[at] for at, thing in enumerate(told)]
        if head in ("and", "or"):
            parts = [self.so_at(part) for part in test[1]]
            if head == "and":
                return [all([part[at] for part in parts]) for at in range(many)]
            return [any([part[at] for part in parts]) for at in range(many)]
        inner = self.so_at(test[1])
        if head == "not":
            return [not is_so for is_so in inner]
        if head == "ahead":
            return [False, *inner][:many]
        first = inner.index(True) if True in inner else many
        return [at >= first for at in range(many)]
