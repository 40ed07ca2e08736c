"""The long run of a lane: the greatest mean of a ring of steps, and papers that show it."""

from math import gcd

from mostcalls.checks import is_integer
from mostcalls.rings import Net, best_ring


def greatest_mean(lane, measure):
    """The greatest mean of a ring that is reached from the first state, in lowest terms."""
    return best_ring(Net(lane, lane.tries_for(measure)))[0]


def ring_paper(lane, measure):
    """A ring paper that is right: the mean, the way to the ring, the ring, and the heights of all states."""
    net = Net(lane, lane.tries_for(measure))
    mean, ring, heights = best_ring(net)
    way = net.way_to(ring[0][0])
    steps = tuple([step for _, step in ring])
    return (mean, way, steps, tuple([(state, heights[place]) for place, state in enumerate(net.states)]))


def check_ring(lane, measure, paper):
    """The mean that any value shows, None if it is no ring paper that is right."""
    tries = lane.tries_for(measure)
    if not isinstance(paper, tuple) or len(paper) != 4:
        return None
    mean, way, ring, heights = paper
    if not _is_mean(mean) or not isinstance(way, tuple) or not isinstance(ring, tuple):
        return None
    if not _is_ring(lane, tries, mean, way, ring) or not _are_heights(lane, heights):
        return None
    return mean if _bounds(Net(lane, tries), mean, heights) else None


def ring_patterns(lane, measure, paper):
    """The tuples (pattern, gap) for the steps of way and ring of a right paper; None for any other value."""
    tries = lane.tries_for(measure)
    if check_ring(lane, measure, paper) is None:
        return None
    return [(tries.pattern_of(ways), gap) for ways, gap in paper[1] + paper[2]]


def _is_mean(value):
    """Whether any value is a mean in lowest terms."""
    if not isinstance(value, tuple) or len(value) != 2 or not (is_integer(value[0]) and is_integer(value[1])):
        return False
    return value[1] > 0 and gcd(value[0], value[1]) == 1


def _is_ring(lane, tries, mean, way, ring):
    """Whether the ring begins behind the way, leads back to its beginning, and has this mean."""
    begin = _behind_steps(lane, lane.first(), way)
    if begin is None or len(ring) == 0 or _behind_steps(lane, begin, ring) != begin:
        return False
    total = sum([tries.weight_of(step[0]) for step in ring])
    return total * mean[1] == mean[0] * len(ring)


def _behind_steps(lane, state, steps):
    """The state behind some steps, None if one of these values is not possible there."""
    for step in steps:
        if not lane.can_do(state, step):
            return None
        state = lane.after(state, step)
    return state


def _are_heights(lane, value):
    """Whether any value tells an integer for each state, in ascending order."""
    if not isinstance(value, tuple) or len(value) != len(lane):
        return False
    if not all([isinstance(row, tuple) and len(row) == 2 and row[0] in lane for row in value]):
        return False
    return [row[0] for row in value] == list(lane) and all([is_integer(row[1]) for row in value])


def _bounds(net, mean, heights):
    """Whether no step gains more than its mean and the fall of the heights."""
    number, whole = mean
    tops = [height for _, height in heights]
    for place, moves in enumerate(net.moves):
        if any([whole * weight + tops[behind] > number + tops[place] for behind, weight, _ in moves]):
            return False
    return True
