"""Walkers: the pulse of a walk from place to place, and a walk that tells a pulse."""

from pulsebook.errors import BadWalk
from pulsebook.kinds import are_numbers, is_list, is_number, told

MOST_PLACES = 400


def is_walk(steps, marks, start):
    if not is_list(steps, 1, MOST_PLACES) or not is_list(marks, len(steps), len(steps)):
        return False
    last = len(steps) - 1
    return are_numbers(steps, 0, last) and are_numbers(marks, 0, 1) and is_number(start, 0, last)


# From the first place that the walker comes to again, all goes on as it did there before.
def walked(steps, marks, start):
    if not is_walk(steps, marks, start):
        raise BadWalk("this is no walk")
    days = {}
    place = start
    while place not in days:
        days[place] = len(days)
        place = steps[place]
    figures = [marks[seen] for seen in days]
    return told(figures[:days[place]], figures[days[place]:])


def walk_of(pulse):
    figures = pulse[0] + pulse[1]
    steps = list(range(1, len(figures))) + [len(pulse[0])]
    return (steps, list(figures))
