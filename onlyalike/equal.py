"""PLACES of a FLOW that are EQUAL UNDER a LINK, a GOING ON that tells them apart, and their MATCHes."""

from onlyalike.errors import BadLink, BadPlace
from onlyalike.flows import need_flow
from onlyalike.joints import Joints, is_link, whole_way
from onlyalike.needs import Needs
from onlyalike.things import is_number


def need_place(flow, thing):
    """The number of a PLACE itself; BadPlace of what is none."""
    need_flow(flow)
    if not is_number(thing, len(flow[1]) - 1):
        raise BadPlace(thing)
    return thing


def need_link(flow, p, q, thing):
    """The LINK of two PLACES itself; BadLink of what is none."""
    need_place(flow, p)
    need_place(flow, q)
    if not is_link(thing, flow[1][p][0], flow[1][q][0]):
        raise BadLink(thing)
    return thing


def going_on(flow, p, q, link):
    """A GOING ON that TELLS UNLIKE, with as few items as can be, or None."""
    need_link(flow, p, q, link)
    items = Joints(flow, flow).faulty_way((p, q, link))
    return None if items is None else whole_way(flow, flow, (p, q, link), items)


def is_equal(flow, p, q, link):
    """Whether two PLACES are EQUAL UNDER a LINK."""
    return going_on(flow, p, q, link) is None


def one_to_one(ones, others):
    """All LINKS of all of the ones with as many others, ascending."""
    links = [()]
    for first in ones:
        longer = []
        for link in links:
            taken = [pair[1] for pair in link]
            longer.extend([(*link, (first, second)) for second in others if second not in taken])
        links = longer
    return links


def match_links(needs, p, q):
    """The MATCHes of two PLACES, ascending, by what is NEEDED in their FLOW."""
    ones = needs.few_at(p)
    others = needs.few_at(q)
    if len(ones) != len(others):
        return []
    return [link for link in one_to_one(ones, others) if needs.joints.is_fine((p, q, link))]


def matches(flow, p, q):
    """The ascending tuple of the MATCHes of two PLACES."""
    need_place(flow, p)
    need_place(flow, q)
    return tuple(match_links(Needs(flow), p, q))
