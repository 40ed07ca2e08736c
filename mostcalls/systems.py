"""Systems: policies, and services whose blocks call services ahead of them."""

from mostcalls.blocks import MOST_AROUND, block_span, calls_in_order, holds_blocks, is_part, parts_in_order
from mostcalls.checks import is_name
from mostcalls.errors import InvalidPart, InvalidPolicies, InvalidServices, TooLong, UnknownName
from mostcalls.policies import Policy

MOST_POLICIES = 8
MOST_SERVICES = 6
MOST_PARTS = 12
MOST_SPAN = 400


class System:
    """Policies and services; a system is never changed, its methods give others."""

    def __init__(self, policies, services):
        _check_policies(policies)
        _check_services(services)
        self._policies = {policy.name: policy for policy in policies}
        self._blocks = {}
        self._spans = {}
        for name, block in services:
            _check_parts(name, block)
            _check_names(block, self._blocks, self._policies)
            ticks = block_span(block, self._policies)
            if ticks > MOST_SPAN:
                raise TooLong(name)
            self._blocks[name] = block
            self._spans[name] = ticks

    def policies(self):
        """The names of the policies, in the given order."""
        return list(self._policies)

    def services(self):
        """The names of the services, in the given order."""
        return list(self._blocks)

    def policy(self, name):
        """The policy of a name."""
        if not isinstance(name, str) or name not in self._policies:
            raise UnknownName(name)
        return self._policies[name]

    def span(self, name):
        """The span of a service."""
        if name not in self:
            raise UnknownName(name)
        return self._spans[name]

    def callees(self, name):
        """The services that a service calls, sorted."""
        return sorted({part[1] for part in calls_in_order(self[name])})

    def with_policy(self, policy):
        """A system with this policy in place of the one of its name."""
        if not isinstance(policy, Policy):
            raise InvalidPolicies(None)
        if policy.name not in self._policies:
            raise UnknownName(policy.name)
        policies = [policy if name == policy.name else self._policies[name] for name in self._policies]
        return System(policies, self._rows())

    def with_block(self, name, block):
        """A system with another block of a service."""
        if name not in self:
            raise UnknownName(name)
        rows = [(other, block if other == name else self._blocks[other]) for other in self._blocks]
        return System(list(self._policies.values()), rows)

    def with_service(self, name, block):
        """A system with one more service at the end."""
        return System(list(self._policies.values()), self._rows() + [(name, block)])

    def __getitem__(self, at):
        if at not in self:
            raise UnknownName(at)
        return self._blocks[at]

    def __contains__(self, x):
        return isinstance(x, str) and x in self._blocks

    def __len__(self):
        return len(self._blocks)

    def __iter__(self):
        return iter(self._blocks)

    def __eq__(self, other):
        return isinstance(other, System) and self._told() == other._told()

    def _rows(self):
        """The tuples (name, block) of the services, in order."""
        return [(name, self._blocks[name]) for name in self._blocks]

    def _told(self):
        """All that was told of the system, in order, by which systems are equal."""
        return [[self._policies[name] for name in self._policies], self._rows()]


def _check_policies(policies):
    """Raises InvalidPolicies unless a system takes these policies."""
    if not isinstance(policies, (list, tuple)) or len(policies) > MOST_POLICIES:
        raise InvalidPolicies(None)
    ahead = []
    for number, policy in enumerate(policies):
        if not isinstance(policy, Policy) or policy.name in ahead:
            raise InvalidPolicies(number)
        ahead.append(policy.name)


def _check_services(services):
    """Raises InvalidServices unless a system takes these services; their parts are not looked at."""
    if not isinstance(services, (list, tuple)) or not 1 <= len(services) <= MOST_SERVICES:
        raise InvalidServices(None)
    ahead = []
    for number, row in enumerate(services):
        if not _is_service(row) or row[0] in ahead:
            raise InvalidServices(number)
        ahead.append(row[0])


def _is_service(row):
    """Whether any value is a tuple of a name and a tuple."""
    return isinstance(row, tuple) and len(row) == 2 and is_name(row[0]) and isinstance(row[1], tuple)


def _check_parts(service, block):
    """Raises InvalidPart with the place of the first part that cannot stand there."""
    for place, (part, around) in enumerate(parts_in_order(block)):
        is_too_deep = around > MOST_AROUND and holds_blocks(part)
        if place == MOST_PARTS or is_too_deep or not is_part(part):
            raise InvalidPart(service, place)


def _check_names(block, ahead, policies):
    """Raises UnknownName with the first callee that is not ahead, or policy that there is not."""
    for _, callee, policy in calls_in_order(block):
        if callee not in ahead:
            raise UnknownName(callee)
        if policy not in policies:
            raise UnknownName(policy)
