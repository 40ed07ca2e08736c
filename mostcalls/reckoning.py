"""Reckoning: the ways of the blocks of a system's services, for a measure."""

from mostcalls.attempts import Call
from mostcalls.blocks import is_call
from mostcalls.manners import Manner
from mostcalls.ways import Both, Chain, Maybe, Risk, Want, Work


class Service:
    """The ways of a service's block, and for which ticks they were asked."""

    def __init__(self, block):
        self.block = block
        self.asked = {}

    def ways(self, left, wanted):
        """The ways of its block."""
        key = (left, wanted)
        if key not in self.asked:
            self.asked[key] = self.block.ways(left, wanted)
        return self.asked[key]


class Reckoning:
    """All services of a system, by their names."""

    def __init__(self, system, measure):
        self.manner = manner_of(measure)
        self.by_name = {}
        for name in system:
            self.by_name[name] = Service(block_source(self.manner, system, measure, name, self.by_name))

    def of_request(self, name):
        """The ways of a request at this entry, which has no deadline and is never unwanted."""
        return self.by_name[name].ways(None, None)


def manner_of(measure):
    """How the numbers of a right measure are put together."""
    most_faults = measure[2] if len(measure) > 2 else None
    return Manner(most_faults, measure[0] == "last", measure[0] == "nobody")


def block_source(manner, system, measure, service, callees):
    """The ways of a service's block, with those of the called services, by name."""
    return _block(manner, system, measure, service, callees, system[service])


def _block(manner, system, measure, service, callees, block):
    """The ways of a block of a service."""
    return Chain(manner, [_part(manner, system, measure, service, callees, part) for part in block])


def _part(manner, system, measure, service, callees, part):
    """The ways of a part of a service's block."""
    if part[0] == "run":
        is_counted = measure[0] in ("work", "nobody") and measure[1] == service
        return Work(manner, part[1], part[2], 1 if is_counted else 0)
    if part[0] == "risk":
        return Risk(manner)
    if is_call(part):
        is_counted = measure[0] == "calls" and measure[1] == part[1]
        call = Call(manner, system.policy(part[2]), callees[part[1]], 1 if is_counted else 0)
        return Want(manner, call) if part[0] == "want" else call
    blocks = [_block(manner, system, measure, service, callees, block) for block in part[1:]]
    return Maybe(manner, blocks[0]) if part[0] == "maybe" else Both(manner, blocks[0], blocks[1])
