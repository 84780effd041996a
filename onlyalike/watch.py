"""What has to be kept in mind of TESTS and REFS while one goes through a list."""


class Watch:
    """Some TESTS, REFS and CONDITIONS, and what of a list has to be kept for them.

    Kept are flags, a tuple of True and False, one for each TEST in a "once" and one for each in an "ahead"; and what is
    held, a tuple of THINGS, None where there is none: the last items, the first one, and those of each "last".
    """

    def __init__(self, asked):
        self.backs = 0
        self.firsts = 0
        # Of each of these the unlike TESTS.
        self.inner = {"last": [], "once": [], "ahead": []}
        for part in asked:
            self.look_through(part)

    def look_through(self, part):
        """Note what has to be kept for a TEST, a REF, a CONDITION, or a tuple of such."""
        if len(part) > 0 and part[0] == "back":
            self.backs = max(self.backs, part[1])
        elif len(part) > 0 and part[0] == "first":
            self.firsts = 1
        for inner in part:
            if isinstance(inner, tuple):
                self.look_through(inner)
        if len(part) > 0 and part[0] in ("last", "once", "ahead") and part[1] not in self.inner[part[0]]:
            self.inner[part[0]].append(part[1])

    def first_flags(self):
        """The flags ahead of all items."""
        return (False,) * (len(self.inner["once"]) + len(self.inner["ahead"]))

    def first_held(self):
        """What is held ahead of all items."""
        return (None,) * (self.backs + self.firsts + len(self.inner["last"]))

    def told_by(self, ref, held, item):
        """What a REF tells at an item, or behind the last one, where the item is None; None where it tells none."""
        if ref[0] == "now":
            return item
        if ref[0] == "back":
            return held[ref[1] - 1]
        if ref[0] == "first":
            return item if held[self.backs] is None else held[self.backs]
        return held[self.backs + self.firsts + self.inner["last"].index(ref[1])]

    def is_so(self, test, flags, held, item):
        """Whether a TEST is so at an item."""
        head = test[0]
        if head in ("like", "is", "none"):
            told = self.told_by(test[1], held, item)
            if head == "none":
                return told is None
            if head == "is":
                return told == test[2]
            return told is not None and told == self.told_by(test[2], held, item)
        if head == "and":
            return all([self.is_so(part, flags, held, item) for part in test[1]])
        if head == "or":
            return any([self.is_so(part, flags, held, item) for part in test[1]])
        if head == "not":
            return not self.is_so(test[1], flags, held, item)
        if head == "once":
            return flags[self.inner["once"].index(test[1])] or self.is_so(test[1], flags, held, item)
        return flags[len(self.inner["once"]) + self.inner["ahead"].index(test[1])]

    def flags_behind(self, flags, held, item):
        """The flags behind an item."""
        onces = [("once", test) for test in self.inner["once"]]
        return tuple([self.is_so(test, flags, held, item) for test in [*onces, *self.inner["ahead"]]])

    def held_behind(self, flags, held, item):
        """What is held behind an item."""
        backs = [item, *held[:self.backs]][:self.backs]
        first = [item if thing is None else thing for thing in held[self.backs:self.backs + self.firsts]]
        lasts = list(held[self.backs + self.firsts:])
        for at, test in enumerate(self.inner["last"]):
            if self.is_so(test, flags, held, item):
                lasts[at] = item
        return tuple([*backs, *first, *lasts])
