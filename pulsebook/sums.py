"""Days added: the sum of two pulses, and all sums of a list of numbers."""

from pulsebook.errors import BadList
from pulsebook.kinds import are_numbers, common_bar, days_of_head, first_days_of_bar, is_list, told

MOST_NUMBERS = 6
GREATEST_NUMBER = 20


def summed(days, others, steps, length):
    figures = [0] * length
    for day in days:
        for another in others:
            figures[day + another] = 1
    for step in steps:
        for place in range(step, length):
            if figures[place - step] == 1:
                figures[place] = 1
    return figures


# A day of one bar and a day of the other together may go on by either bar. Of each remainder by the one bar, the least
# such sum lies less than the common bar behind a sum of two first days, and from there on that remainder has them all.
# So behind the sums of first days and a common bar, whatever is a sum comes again with the common bar.
def added(one, other):
    step = len(one[1])
    other_step = len(other[1])
    common = common_bar(one, other)
    head = len(one[0]) + len(other[0]) + step + other_step + common
    length = head + common
    heads = summed(days_of_head(one), days_of_head(other), [], length)
    head_and_bar = summed(days_of_head(one), first_days_of_bar(other), [other_step], length)
    bar_and_head = summed(first_days_of_bar(one), days_of_head(other), [step], length)
    bars = summed(first_days_of_bar(one), first_days_of_bar(other), [step, other_step], length)
    figures = [max(entries) for entries in zip(heads, head_and_bar, bar_and_head, bars)]
    return told(figures[:head], figures[head:])


# Of as many numbers as the first one says, some make a multiple of it together and can be left out. So the least sum of
# each remainder by the first number has fewer numbers than that, and from there on that remainder has them all.
def all_sums(numbers):
    if not is_list(numbers, 1, MOST_NUMBERS) or not are_numbers(numbers, 1, GREATEST_NUMBER):
        raise BadList("this is no list of 1 to 6 whole numbers from 1 to 20")
    head = GREATEST_NUMBER * GREATEST_NUMBER
    figures = summed([0], [0], numbers, head + numbers[0])
    return told(figures[:head], figures[head:])
