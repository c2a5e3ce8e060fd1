"""Heaps that two take from in turn: which are lost, and what to take from the others."""

from pulsebook.errors import BadList
from pulsebook.kinds import are_numbers, is_list
from pulsebook.pulses import has
from pulsebook.walkers import walked

MOST_NUMBERS = 8
GREATEST_NUMBER = 8
# As many ways as there are for 8 heaps to be lost or not, each.
PLACES = 256


def is_left_lost(place, number):
    return (place >> (number - 1)) % 2 == 1


def figure_of_heap(place, numbers):
    return 0 if any([is_left_lost(place, number) for number in numbers]) else 1


# A heap hangs on the 8 heaps below it alone. So one heap after the other is a walk: a place tells which of the 8 below
# are lost, by its figures to the base of 2, the last one that of the nearest heap. Below the heap of 0 no heap can be
# left, as though none of them were lost: the start is place 0.
def lost(numbers):
    if not is_list(numbers, 1, MOST_NUMBERS) or not are_numbers(numbers, 1, GREATEST_NUMBER):
        raise BadList("this is no list of 1 to 8 whole numbers from 1 to 8")
    marks = [figure_of_heap(place, numbers) for place in range(PLACES)]
    steps = [(2 * place + marks[place]) % PLACES for place in range(PLACES)]
    return walked(steps, marks, 0)


# From a lost heap no number leaves a lost one, so there the least of none is asked for.
def good_take(numbers, size):
    pulse = lost(numbers)
    return min([number for number in numbers if number <= size and has(pulse, size - number)], default=None)
