"""Which THINGS are NEEDED at a PLACE, or behind a list, and how many of them a MACHINE needs."""

from onlyalike.equal import need_place, needed_things
from onlyalike.flows import flow_through, machine_flow
from onlyalike.joints import Joints
from onlyalike.machines import need_machine
from onlyalike.things import need_list


def needed_at(flow, p):
    """The ascending tuple of the THINGS that are NEEDED at a PLACE."""
    need_place(flow, p)
    return tuple(needed_things(Joints(flow, flow), p))


def needed_of_all(flow):
    """For each PLACE the THINGS that are NEEDED there."""
    joints = Joints(flow, flow)
    return [needed_things(joints, p) for p in range(len(flow[1]))]


def need_of(machine):
    """The NEED of a MACHINE."""
    need_machine(machine)
    needed = needed_of_all(machine_flow(machine, machine[0]))
    return max([len(things) for things in needed])


def needed_behind(machine, things):
    """The tuple of the THINGS that are NEEDED behind a list, as they first come in it."""
    need_machine(machine)
    need_list(things)
    flow = machine_flow(machine, machine[0])
    _, p, held = flow_through(flow, things)
    needed = [held[at] for at in needed_things(Joints(flow, flow), p)]
    return tuple([thing for at, thing in enumerate(things) if thing in needed and thing not in things[:at]])
