"""Blocks: what a part is, the parts of a block in the order in which they begin, and spans."""

from mostcalls.checks import is_between, is_name

MOST_TICKS = 20
# How many parts may stand around a `maybe` or `both`.
MOST_AROUND = 1


def is_part(value):
    """Whether any value is a part; what stands inside a `maybe` or `both` is looked at by itself."""
    if not isinstance(value, tuple) or len(value) == 0 or not isinstance(value[0], str):
        return False
    if value[0] == "run":
        return len(value) == 3 and is_between(value[1], 0, MOST_TICKS) and is_between(value[2], value[1], MOST_TICKS)
    if value[0] == "risk":
        return len(value) == 1
    if is_call(value):
        return len(value) == 3 and is_name(value[1]) and is_name(value[2])
    return holds_blocks(value)


def is_call(part):
    """Whether a part is a call, one whose failure counts or one whose failure does not."""
    return part[0] in ("call", "want")


def holds_blocks(value):
    """Whether any value is a `maybe` or `both` whose blocks are tuples."""
    if not isinstance(value, tuple) or len(value) == 0 or not isinstance(value[0], str):
        return False
    if value[0] == "maybe":
        return len(value) == 2 and isinstance(value[1], tuple)
    return value[0] == "both" and len(value) == 3 and isinstance(value[1], tuple) and isinstance(value[2], tuple)


def parts_in_order(block, around=0):
    """The tuples (part, number of parts around it) of all parts of a block, as they begin.

    It does not look into a `maybe` or `both` that stands too deep: that one is wrong itself.
    """
    found = []
    for part in block:
        found.append((part, around))
        if around <= MOST_AROUND and holds_blocks(part):
            for inner in part[1:]:
                found += parts_in_order(inner, around + 1)
    return found


def calls_in_order(block):
    """All calls of a right block, as they begin."""
    return [part for part, _ in parts_in_order(block) if is_call(part)]


def block_span(block, policies):
    """The span of a right block; policies is a dict from names to policies."""
    return sum([part_span(part, policies) for part in block])


def part_span(part, policies):
    """The span of a right part: the longest that it can take."""
    if part[0] == "run":
        return part[2]
    if part[0] == "risk":
        return 0
    if is_call(part):
        return call_span(policies[part[2]])
    return max([block_span(inner, policies) for inner in part[1:]])


def call_span(policy):
    """The longest that a call by a policy can take."""
    if policy.early is not None:
        return (policy.tries - 1) * policy.early + policy.limit
    return policy.tries * policy.limit + sum(policy.pauses)
