"""FILTERS: what they tell of a list, by definition, and as FLOWS."""

from onlyalike.errors import BadFilter
from onlyalike.fitted import fitted_flow
from onlyalike.growth import Program
from onlyalike.spots import MOST_DEEP, Form, Spots
from onlyalike.things import is_one_of, is_tuple_of, is_word, need_list
from onlyalike.watch import Watch

MOST_IN_FILTER = 60
MOST_CHOICES = 4
MOST_SIFTED = 3


def is_sifted(thing, form, refs_barred):
    """Whether anything is a ROW, without REFS of some kinds; what is in it is noted by the form."""
    if not isinstance(thing, tuple) or len(thing) > MOST_SIFTED:
        return False
    for part in thing:
        if is_tuple_of(part, 2) and is_one_of(part[0], ("word",)):
            if not is_word(part[1]):
                return False
            form.words[part[1]] = True
        elif not form.is_one(part, "ref", MOST_DEEP) or part[0] in refs_barred:
            return False
    return True


def is_choice(thing, form):
    """Whether anything is one of CHOICES."""
    return is_tuple_of(thing, 2) and form.is_one(thing[0], "test", MOST_DEEP) and is_sifted(thing[1], form, ())


def has_form(thing, form):
    """Whether anything is a FILTER, but for what it keeps by its form, and for its WORDS."""
    if not is_tuple_of(thing, 2):
        return False
    choices, last = thing
    if not isinstance(choices, tuple) or not 1 <= len(choices) <= MOST_CHOICES:
        return False
    return all([is_choice(choice, form) for choice in choices]) and is_sifted(last, form, ("now",))


def form_of(sieve):
    """What a FILTER has in it; BadFilter of what is none."""
    form = Form(MOST_IN_FILTER)
    if not has_form(sieve, form) or not form.is_bounded():
        raise BadFilter(sieve)
    return form


def need_filter(thing):
    """The FILTER itself; BadFilter of what is none."""
    form_of(thing)
    return thing


def without_none(told):
    """What is told of what REFS tell, of which some may tell none."""
    return tuple([thing for thing in told if thing is not None])


def told_by_row(row, spots):
    """What each part of a ROW tells at each SPOT, and at the one behind the last item."""
    always = len(spots.things) + 1
    return [[part[1]] * always if part[0] == "word" else spots.told_by(part) for part in row]


def sift_list(sieve, things):
    """The BEHAVIOUR of a FILTER for a list."""
    need_filter(sieve)
    need_list(things)
    choices, last = sieve
    spots = Spots(things)
    told = [told_by_row(row, spots) for _, row in choices]
    so_at = [spots.so_at(test) for test, _ in choices]
    rows = []
    for at in range(len(things)):
        chosen = [number for number, is_so in enumerate(so_at) if is_so[at]]
        rows.append(without_none([part[at] for part in told[chosen[0]]]) if len(chosen) > 0 else ())
    return tuple(rows), "yes", without_none([part[-1] for part in told_by_row(last, spots)])


class Sifting(Program):
    """A FILTER as one goes through a list: the label is the flags of a Watch."""

    def __init__(self, sieve, words):
        self.choices, self.last = sieve
        rows = [*[row for _, row in self.choices], self.last]
        refs = [part for row in rows for part in row if part[0] != "word"]
        self.watch = Watch([*[test for test, _ in self.choices], *refs])
        super().__init__(words, self.watch.first_flags(), self.watch.first_held())

    def told_by(self, row, held, item):
        """What a ROW tells at an item, or behind the last one, where the item is None."""
        told = [part[1] if part[0] == "word" else self.watch.told_by(part, held, item) for part in row]
        return without_none(told)

    def step(self, label, held, item):
        """What is told at an item, and the flags and what is held behind it."""
        rows = [row for test, row in self.choices if self.watch.is_so(test, label, held, item)]
        told = self.told_by(rows[0], held, item) if len(rows) > 0 else ()
        return told, self.watch.flags_behind(label, held, item), self.watch.held_behind(label, held, item)

    def end(self, label, held):
        """The VERDICT "yes", and what is told behind the last item."""
        return "yes", self.told_by(self.last, held, None)


def make_filter(sieve):
    """MADE: the FILTER as a FLOW over its WORDS."""
    form = form_of(sieve)
    return fitted_flow(Sifting(sieve, tuple(sorted(form.words))))
