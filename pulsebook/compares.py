"""Pulses compared: the first day by which two differ, and whether one lies within another."""

from pulsebook.kinds import common_bar, longer_head
from pulsebook.sets import OF_FIRST_ALONE, OF_JUST_ONE, figure_together


# Looked for day by day, as the pulse of these days might be too long to be told.
def first_day_together(one, other, wanted):
    for day in range(longer_head(one, other) + common_bar(one, other)):
        if figure_together(one, other, wanted, day) == 1:
            return day
    return None


def differ(one, other):
    return first_day_together(one, other, OF_JUST_ONE)


def within(one, other):
    return first_day_together(one, other, OF_FIRST_ALONE) is None
