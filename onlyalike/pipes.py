"""PIPES of FLOWS, each of which reads what the one ahead tells."""

from onlyalike.errors import BadPipe
from onlyalike.fitted import fitted_flow, lessened
from onlyalike.flows import flow_fault
from onlyalike.stages import Pair, Sides, Stages, words_of_all
from onlyalike.things import MOST_WORDS, need_list

MOST_STAGES = 4


def need_pipe(thing):
    """The PIPE itself; BadPipe of what is none."""
    if not isinstance(thing, tuple) or not 1 <= len(thing) <= MOST_STAGES:
        raise BadPipe(None)
    for number, flow in enumerate(thing):
        if flow_fault(flow) is not None:
            raise BadPipe(number)
    if len(words_of_all(thing)) > MOST_WORDS:
        raise BadPipe(None)
    return thing


def run_pipe(pipe, things):
    """The BEHAVIOUR of a PIPE for a list."""
    need_pipe(pipe)
    need_list(things)
    stages = Stages(pipe, words_of_all(pipe))
    label, held = stages.first
    rows = []
    for item in things:
        row, label, held = stages.step(label, held, item)
        rows.append(row)
    verdict, last = stages.end(label, held)
    return tuple(rows), verdict, last


def lessened_stages(pipe):
    """The same PIPE with as little in each of its STAGES as can be had; BadPipe of what is none."""
    return tuple([lessened(flow) for flow in need_pipe(pipe)])


def pipe_as_flow(pipe):
    """PIPED: the PIPE as one FLOW."""
    stages = lessened_stages(pipe)
    return fitted_flow(Stages(stages, words_of_all(stages)))


def pipes_alike(one, other):
    """Whether two PIPES, of which the other one has no more WORDS, are ALIKE."""
    words = words_of_all(one)
    return Sides(Pair(Stages(one, words), Stages(other, words))).parting() is None


def may_turn_stages(pipe):
    """The ascending tuple of the numbers N of the STAGES that may change with the next one."""
    stages = lessened_stages(pipe)
    turned = [(*stages[:number], stages[number + 1], stages[number], *stages[number + 2:])
              for number in range(len(stages) - 1)]
    return tuple([number for number, other in enumerate(turned) if pipes_alike(stages, other)])


def needless_stages(pipe):
    """The ascending tuple of the numbers of the STAGES that are NEEDLESS."""
    stages = lessened_stages(pipe)
    left = [(*stages[:number], *stages[number + 1:]) for number in range(len(stages))]
    return tuple([number for number, other in enumerate(left) if len(other) > 0 and pipes_alike(stages, other)])
