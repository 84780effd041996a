"""A FLOW that tells what a program tells, within the bounds of FLOWS."""

from onlyalike.classes import colors_of
from onlyalike.errors import TooMany
from onlyalike.flows import MOST_MANY
from onlyalike.growth import MOST_PLACES, MOST_ROW, Growth
from onlyalike.least import least_of

# So many PLACES are looked at, to see whether the LEAST FLOW has few enough.
MOST_GROWN = 5000


def most_at_a_place(flow):
    """The most THINGS of all its PLACES."""
    return max([place[0] for place in flow[1]])


def longest_row(flow):
    """The length of the longest of its rows."""
    return max([max([len(end[1]), *[len(turn[0]) for turn in turns]]) for _, turns, end in flow[1]])


def lessened(flow):
    """The LEAST FLOW of what is a FLOW but for its bounds, as far as it can be had; else that itself."""
    if len(set(colors_of(flow))) > MOST_PLACES:
        return flow
    try:
        return least_of(flow)
    except TooMany:
        return flow


def fitted_flow(program):
    """A FLOW that tells what a program tells; TooMany if it goes beyond the bounds of FLOWS."""
    flow = lessened((program.words, Growth(program, MOST_GROWN).all_places()))
    if len(flow[1]) > MOST_PLACES:
        raise TooMany(MOST_PLACES)
    if longest_row(flow) > MOST_ROW:
        raise TooMany(MOST_ROW)
    if most_at_a_place(flow) > MOST_MANY:
        raise TooMany(MOST_MANY)
    return flow
