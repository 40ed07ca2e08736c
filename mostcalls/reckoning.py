"""Reckoning: the ways of the blocks of a system's services, for a measure."""

from mostcalls.attempts import Call
from mostcalls.blocks import is_call
from mostcalls.manners import Manner
from mostcalls.ways import Both, Chain, Maybe, Risk, Want, Work


class Service:
    """The ways of a service's block, and for which ticks they were asked."""

    def __init__(self, block):
        self.block = block
        self.asked = {}

    def ways(self, left, wanted):
        """The ways of its block."""
        key = (left, wanted)
        if key not in self.asked:
            self.asked[key] = self.block.ways(left, wanted)
        return self.asked[key]


class Reckoning:
    """All services of a system, by their names."""

    def __init__(self, system, measure):
        self.by_name = {}
        blocks = Blocks(system, measure, self.by_name)
        self.manner = blocks.manner
        for name in system:
            self.by_name[name] = Service(blocks.of_service(name))

    def of_request(self, name):
        """The ways of a request at this entry, which has no deadline and is never unwanted."""
        return self.by_name[name].ways(None, None)


class Blocks:
    """The ways of blocks, with those of the called services by name."""

    def __init__(self, system, measure, callees):
        self.world = system
        self.counted = measure
        self.manner = manner_of(measure)
        self.called = callees
        # Calls of the same service by the same policy have the same ways.
        self.calls = {}

    def of_service(self, name):
        """The ways of a service's block."""
        return self._block(name, self.world[name])

    def _block(self, service, block):
        """The ways of a block of a service."""
        return Chain(self.manner, [self.of_part(service, part) for part in block])

    def of_part(self, service, part):
        """The ways of a part of a service's block."""
        if part[0] == "run":
            is_counted = self.counted[0] in ("work", "nobody") and self.counted[1] == service
            return Work(self.manner, part[1], part[2], 1 if is_counted else 0)
        if part[0] == "risk":
            return Risk(self.manner)
        if is_call(part):
            call = self.of_call(part[1], part[2])
            return Want(self.manner, call) if part[0] == "want" else call
        blocks = [self._block(service, block) for block in part[1:]]
        return Maybe(self.manner, blocks[0]) if part[0] == "maybe" else Both(self.manner, blocks[0], blocks[1])

    def of_call(self, callee, policy):
        """The ways of a call."""
        key = (callee, policy)
        if key not in self.calls:
            cost = 1 if self.counted[:2] == ("calls", callee) else 0
            self.calls[key] = Call(self.manner, self.world.policy(policy), self.called[callee], cost)
        return self.calls[key]


def manner_of(measure):
    """How the numbers of a right measure are put together."""
    most_faults = measure[2] if len(measure) > 2 else None
    return Manner(most_faults, measure[0] == "last", measure[0] == "nobody")
