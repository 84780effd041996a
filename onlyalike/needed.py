"""Which THINGS are NEEDED at a PLACE, or behind a list, and how many of them a MACHINE needs."""

from onlyalike.equal import need_place
from onlyalike.flows import flow_through, machine_flow
from onlyalike.machines import need_machine
from onlyalike.needs import Needs
from onlyalike.things import need_list


def needed_at(flow, p):
    """The ascending tuple of the THINGS that are NEEDED at a PLACE."""
    need_place(flow, p)
    return tuple(Needs(flow).things_at(p))


def needed_of_all(flow):
    """For each PLACE the THINGS that are NEEDED there."""
    needs = Needs(flow)
    return [needs.things_at(p) for p in range(len(flow[1]))]


def need_of(machine):
    """The NEED of a MACHINE."""
    need_machine(machine)
    needed = needed_of_all(machine_flow(machine, machine[0]))
    return max([len(things) for things in needed])


def needed_behind(machine, things):
    """The tuple of the THINGS that are NEEDED behind a list, as they first come in it."""
    need_machine(machine)
    need_list(things)
    flow = machine_flow(machine, machine[0])
    _, p, held = flow_through(flow, things)
    needed = [held[at] for at in Needs(flow).things_at(p)]
    return tuple([thing for at, thing in enumerate(things) if thing in needed and thing not in things[:at]])
