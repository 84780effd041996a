"""RUNNERS: MACHINES to which THINGS are fed one by one."""

from onlyalike.alike import parting_of
from onlyalike.errors import AlikeError, BadJournal, BadThing, Parts, TooMany
from onlyalike.flows import flow_of
from onlyalike.least import least_flow, tidy
from onlyalike.machines import end_of, gone_through, need_machine, step_of, trees_of
from onlyalike.needed import needed_behind
from onlyalike.things import MOST_ITEMS, is_one_of, is_thing, is_tuple_of
from onlyalike.trials import Trial

MOST_JOURNAL = 400


class Moment:
    """Where a RUNNER stands behind something that was done: its MACHINE, the STATE, and what the boxes hold.

    The deed is None ahead of all, and the row is None but behind what was fed.
    """

    def __init__(self, deed, row, machine, name, boxes):
        self.deed = deed
        self.row = row
        self.machine = machine
        self.name = name
        self.boxes = boxes


def under(manager, deed):
    """What a deed returns, called in a with statement over a manager with what this gives."""
    with manager as one:
        return deed(one)


class Runner:
    """A MACHINE, and what was fed to it."""

    def __init__(self, machine):
        need_machine(machine)
        _, name, boxes = gone_through(machine, ())
        # The moments behind what was done, the first one ahead of all, and those that were taken back, the last one
        # to be done again first.
        self.standing = ((Moment(None, None, machine, name, boxes),), ())

    @classmethod
    def of(cls, machine, journal):
        """A RUNNER in which the things of a JOURNAL are done."""
        runner = cls(machine)
        if not isinstance(journal, tuple) or len(journal) > MOST_JOURNAL:
            raise BadJournal(None)
        for number, deed in enumerate(journal):
            try:
                is_done = runner.do_deed(deed)
            except (AlikeError, TooMany):
                is_done = False
            if not is_done:
                raise BadJournal(number)
        return runner

    @property
    def program(self):
        """The MACHINE."""
        return self.standing[0][-1].machine

    @property
    def fed(self):
        """The tuple of the THINGS that were fed."""
        return tuple([moment.deed[1] for moment in self.standing[0] if moment.row is not None])

    @property
    def told(self):
        """The tuple of the rows that were told."""
        return tuple([moment.row for moment in self.standing[0] if moment.row is not None])

    @property
    def state_now(self):
        """The NAME of the STATE."""
        return self.standing[0][-1].name

    @property
    def boxes_now(self):
        """The tuple of pairs of a box and the THING that it holds, of those that are not empty."""
        now = self.standing[0][-1]
        return tuple([(box, now.boxes[box]) for box in now.machine[1] if now.boxes[box] is not None])

    @property
    def journal(self):
        """The tuple of what was done and not undone."""
        return tuple([moment.deed for moment in self.standing[0][1:]])

    def go_on(self, moment):
        """Stand at a new moment; nothing that was taken back can be done again."""
        self.standing = ((*self.standing[0], moment), ())

    def go_on_by(self, deed, machine):
        """Go on by another MACHINE, to which the same THINGS count as fed."""
        _, name, boxes = gone_through(machine, self.fed)
        self.go_on(Moment(deed, None, machine, name, boxes))

    def do_deed(self, deed):
        """Do a thing of a JOURNAL; whether it is one by its form."""
        if is_tuple_of(deed, 1) and is_one_of(deed[0], ("slim",)):
            self.slim()
        elif is_tuple_of(deed, 2) and is_one_of(deed[0], ("feed",)):
            self.feed(deed[1])
        elif is_tuple_of(deed, 2) and is_one_of(deed[0], ("swap",)):
            self.swap(deed[1])
        else:
            return False
        return True

    def feed(self, thing):
        """Feed a THING; the row that is told."""
        if not is_thing(thing):
            raise BadThing(thing)
        if len(self.fed) == MOST_ITEMS:
            raise TooMany(MOST_ITEMS)
        now = self.standing[0][-1]
        row, name, boxes = step_of(trees_of(now.machine), now.name, now.boxes, thing)
        self.go_on(Moment(("feed", thing), row, now.machine, name, boxes))
        return row

    def ending(self):
        """The pair of VERDICT and row if the list ended here."""
        now = self.standing[0][-1]
        return end_of(trees_of(now.machine), now.name, now.boxes)

    def needed_now(self):
        """The tuple of the THINGS that are NEEDED, in the order in which each was fed first."""
        return needed_behind(self.program, self.fed)

    def swap(self, machine):
        """Go on by a MACHINE that is ALIKE; Parts of one that is not."""
        parting = parting_of(self.program, machine)
        if parting is not None:
            raise Parts(parting)
        self.go_on_by(("swap", machine), machine)

    def slim(self):
        """Go on by the TIDY MACHINE of the LEAST FLOW."""
        self.go_on_by(("slim",), tidy(least_flow(flow_of(self.program))))

    def undo(self):
        """Take back what was done last; whether there was something."""
        moments, taken = self.standing
        if len(moments) == 1:
            return False
        self.standing = (moments[:-1], (moments[-1], *taken))
        return True

    def redo(self):
        """Do again what was taken back last; whether there was something."""
        moments, taken = self.standing
        if len(taken) == 0:
            return False
        self.standing = ((*moments, taken[0]), taken[1:])
        return True

    def copy(self):
        """A RUNNER that stands likewise and goes on by itself."""
        other = Runner(self.program)
        other.standing = self.standing
        return other

    def trial(self):
        """An object for one with statement, behind which all is as it was when it began."""
        return Trial(self)

    def __eq__(self, other):
        """Whether other is a RUNNER with the same MACHINE and the same THINGS fed."""
        return isinstance(other, Runner) and self.program == other.program and self.fed == other.fed

    def __len__(self):
        """How many THINGS were fed."""
        return len(self.fed)
