"""SHELVES: MACHINES by names, each of which can be replaced by one that is ALIKE."""

from onlyalike.alike import parting_of
from onlyalike.errors import BadWord, Missing, Parts
from onlyalike.insum import parting_in_sum
from onlyalike.machines import need_machine
from onlyalike.things import is_word
from onlyalike.trials import Trial


class Shelf:
    """MACHINES by names; on one that is not strict what is ALIKE IN SUM can take the place of a MACHINE, too."""

    def __init__(self, *, strict=True):
        self.strict = strict
        # The MACHINES by their names, in a dict that is never changed itself; and for each thing that was done the
        # name, and the MACHINE that it had ahead of this, or None.
        self.standing = ({}, ())

    @property
    def is_strict(self):
        """Whether it is strict."""
        return self.strict

    def __contains__(self, name):
        """Whether anything is a name of a MACHINE on it."""
        return is_word(name) and name in self.standing[0]

    def __getitem__(self, name):
        """The MACHINE with a name; Missing if there is none."""
        if not is_word(name) or name not in self.standing[0]:
            raise Missing(name)
        return self.standing[0][name]

    def __setitem__(self, name, machine):
        """Put a MACHINE on it under a name, which begins anew."""
        if not is_word(name):
            raise BadWord(name)
        need_machine(machine)
        self.change(name, machine)

    def __iter__(self):
        raise TypeError("a SHELF is not gone through")

    def __len__(self):
        """How many MACHINES there are on it."""
        return len(self.standing[0])

    def __eq__(self, other):
        """Whether other is a SHELF with the same strictness and the same MACHINES of the same names."""
        return isinstance(other, Shelf) and self.strict == other.strict and self.standing[0] == other.standing[0]

    def with_machine(self, name, machine):
        """The MACHINES by their names, with this one under a name, or without that name if it is None."""
        machines = {label: kept for label, kept in self.standing[0].items() if label != name}
        if machine is not None:
            machines[name] = machine
        return machines

    def change(self, name, machine):
        """Put a MACHINE on it under a name, or nothing if it is None."""
        machines, past = self.standing
        self.standing = (self.with_machine(name, machine), (*past, (name, machines.get(name))))

    def labels(self):
        """The ascending tuple of the names."""
        return tuple(sorted(self.standing[0]))

    def forget(self, name):
        """Take away the MACHINE with a name; Missing if there is none."""
        if name not in self:
            raise Missing(name)
        self.change(name, None)

    def replace(self, name, machine):
        """Put a MACHINE in the place of one that is ALIKE, or, if it is not strict, ALIKE IN SUM."""
        if name not in self:
            raise Missing(name)
        there = self.standing[0][name]
        parting = parting_of(there, machine) if self.strict else parting_in_sum(there, machine)
        if parting is not None:
            raise Parts(parting)
        self.change(name, machine)

    def undo(self):
        """Take back what was done last; whether there was something."""
        _, past = self.standing
        if len(past) == 0:
            return False
        name, machine = past[-1]
        self.standing = (self.with_machine(name, machine), past[:-1])
        return True

    def trial(self):
        """An object for one with statement, behind which all is as it was when it began."""
        return Trial(self)
