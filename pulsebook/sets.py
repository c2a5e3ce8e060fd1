"""Days put together: pulses joined, met and turned."""

from pulsebook.kinds import common_bar, figure_of, longer_head, told

# The figure of a day that is a day of: neither pulse, the second alone, the first alone, both.
OF_BOTH = (0, 0, 0, 1)
OF_EITHER = (0, 1, 1, 1)
OF_FIRST_ALONE = (0, 0, 1, 0)
OF_JUST_ONE = (0, 1, 1, 0)


def figure_together(one, other, wanted, day):
    return wanted[2 * figure_of(one, day) + figure_of(other, day)]


def put_together(one, other, wanted):
    head = longer_head(one, other)
    length = head + common_bar(one, other)
    days = [figure_together(one, other, wanted, day) for day in range(length)]
    return told(days[:head], days[head:])


def both(one, other):
    return put_together(one, other, OF_BOTH)


def either(one, other):
    return put_together(one, other, OF_EITHER)


def less(one, other):
    return put_together(one, other, OF_FIRST_ALONE)


def apart(one, other):
    return put_together(one, other, OF_JUST_ONE)


def other(pulse):
    return told([1 - figure for figure in pulse[0]], [1 - figure for figure in pulse[1]])
