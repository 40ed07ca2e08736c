"""Rings: the states of a lane, numbered, with their steps, and the ring of the greatest mean."""

from math import gcd


class Net:
    """The states of a lane, numbered in ascending order, and their steps with weights.

    Of the steps from one state to the same other one, one of the greatest weight is enough.
    """

    def __init__(self, lane, tries):
        self.states = list(lane)
        self.moves = []
        places = {state: place for place, state in enumerate(self.states)}
        self.first_place = places[lane.first()]
        weights = {}
        for state in self.states:
            best = {}
            for step, behind in lane.steps(state):
                ways = step[0]
                if ways not in weights:
                    weights[ways] = tries.weight_of(ways)
                place = places[behind]
                if place not in best or weights[ways] > best[place][1]:
                    best[place] = (place, weights[ways], step)
            self.moves.append(list(best.values()))

    def way_to(self, place):
        """Steps from the first state to another one."""
        came_by = {self.first_place: None}
        left = [self.first_place]
        while place not in came_by:
            found = []
            for ahead in list(left):
                for behind, _, step in self.moves[ahead]:
                    if behind not in came_by:
                        came_by[behind] = (ahead, step)
                        found.append(behind)
            left = found
        steps = []
        while came_by[place] is not None:
            place, step = came_by[place]
            steps.append(step)
        return tuple(steps[::-1])


def best_ring(net):
    """The greatest mean, a ring that has it, as tuples (place, step), and heights which show that none has more."""
    mean, ring = _ring_in([_greatest_move(moves) for moves in net.moves])
    while True:
        heights, better = _climb(net, mean)
        if better is None:
            return (mean, ring, heights)
        mean, ring = better


def _greatest_move(moves):
    """A move of the greatest weight."""
    most = max([weight for _, weight, _ in moves])
    return [move for move in moves if move[1] == most][0]


def _climb(net, mean):
    """The heights with which no step gains more than a mean; or, in place of them, a ring that has a greater one.

    A state is raised until it is as high as each step from it demands. The moves that raised states last lead round
    only if a ring gains more than the mean, and then the states on it would be raised for ever.
    """
    number, whole = mean
    heights = [0] * len(net.moves)
    raised_by = [None] * len(net.moves)
    order = list(range(len(net.moves)))
    is_rising = True
    while is_rising:
        is_rising = False
        for place in order:
            for move in net.moves[place]:
                height = whole * move[1] - number + heights[move[0]]
                if height > heights[place]:
                    heights[place] = height
                    raised_by[place] = move
                    is_rising = True
        better = _ring_in(raised_by)
        if better is not None:
            return (heights, better)
        order = order[::-1]
    return (heights, None)


def _ring_in(moves):
    """A ring of these moves, one or None for each state, with its mean; None if they do not lead round."""
    begun_at = {}
    for begin in range(len(moves)):
        place = begin
        while place not in begun_at and moves[place] is not None:
            begun_at[place] = begin
            place = moves[place][0]
        if begun_at.get(place) == begin:
            return _ring_from(moves, place)
    return None


def _ring_from(moves, begin):
    """The mean of the ring of these moves that begins at a state, and its tuples (place, step)."""
    ring = [(begin, moves[begin][2])]
    total = moves[begin][1]
    place = moves[begin][0]
    while place != begin:
        ring.append((place, moves[place][2]))
        total = total + moves[place][1]
        place = moves[place][0]
    shared = gcd(total, len(ring))
    return ((total // shared, len(ring) // shared), ring)
