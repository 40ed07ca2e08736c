"""Measures: what is counted of a request."""

from mostcalls.checks import is_between

MOST_FAULTS = 6


def is_measure(value, system):
    """Whether any value is a measure with a service of the system."""
    if not isinstance(value, tuple) or len(value) == 0 or not isinstance(value[0], str):
        return False
    if value[0] == "last":
        return len(value) == 1
    if value[0] not in ("calls", "work", "nobody") or not 2 <= len(value) <= 3:
        return False
    return value[1] in system and (len(value) == 2 or is_between(value[2], 0, MOST_FAULTS))
