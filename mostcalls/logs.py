"""Logs: which spans the handler runs of a request had, and whether a pattern explains them."""

from mostcalls.blocks import is_call
from mostcalls.checks import is_count, is_path
from mostcalls.errors import UnknownName
from mostcalls.patterns import Pattern
from mostcalls.sightings import Ground, can_have, choices_with_just


def log_of(run):
    """The log of a run: its spans without when their tries were given up, by begin, then by path."""
    return [span for _, _, span in sorted([(span[2], span[0], span[:5]) for span in run])]


def judged(system, entry, log):
    """None if any value is a log that stands, otherwise how many of its spans can be had together; -1 for no list."""
    _check(system, entry)
    if not isinstance(log, list):
        return -1
    spans = _leading_spans(system, entry, log)
    if len(spans) == len(log) and _stands(system, entry, spans):
        return None
    ground = Ground(system, False)
    least, most = 0, len(spans)
    while least < most:
        middle = (least + most + 1) // 2
        if can_have(ground, entry, spans[:middle]):
            least = middle
        else:
            most = middle - 1
    return least


def explained(system, entry, log):
    """A pattern whose run has just the spans of any value, None if there is none."""
    _check(system, entry)
    if not isinstance(log, list):
        return None
    spans = _leading_spans(system, entry, log)
    # Every request has the span of its entry.
    if len(spans) < len(log) or len(log) == 0:
        return None
    choices = choices_with_just(system, entry, spans)
    return None if choices is None else Pattern(entry, choices)


def _stands(system, entry, spans):
    """Whether a request can have these spans and no others."""
    return len(spans) > 0 and can_have(Ground(system, True), entry, spans)


def _check(system, entry):
    """Raises UnknownName unless there is such an entry."""
    if entry not in system:
        raise UnknownName(entry)


def _leading_spans(system, entry, log):
    """The spans ahead of the first value of a log that no run can have, by itself or beside one of the same path."""
    spans = []
    paths = {}
    for value in log:
        if not _is_span(value) or value[0] in paths or _service_at(system, entry, value[0]) != value[1]:
            return spans
        paths[value[0]] = True
        spans.append(value)
    return spans


def _is_span(value):
    """Whether any value has the form of a span."""
    if not isinstance(value, tuple) or len(value) != 5 or not is_path(value[0]):
        return False
    if not isinstance(value[1], str) or not is_count(value[2]) or not is_count(value[3]):
        return False
    return isinstance(value[4], str)


def _service_at(system, entry, path):
    """The service of the handler run of a path, None if the path leads to no try."""
    service = entry
    block = system[entry]
    rest = list(path)
    while len(rest) > 0:
        index = rest.pop(0)
        if index >= len(block):
            return None
        part = block[index]
        if part[0] == "maybe" and len(rest) > 0:
            block = part[1]
        elif part[0] == "both" and len(rest) > 1 and rest[0] < 2:
            block = part[1 + rest.pop(0)]
        elif is_call(part) and len(rest) > 0 and rest.pop(0) < system.policy(part[2]).tries:
            service = part[1]
            block = system[service]
        else:
            return None
    return service
