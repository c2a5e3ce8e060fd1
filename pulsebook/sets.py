"""Days put together: pulses joined, met and turned."""

from pulsebook.kinds import figure_of, told

# The figure of a day that is a day of: neither pulse, the second alone, the first alone, both.
OF_BOTH = (0, 0, 0, 1)
OF_EITHER = (0, 1, 1, 1)
OF_FIRST_ALONE = (0, 0, 1, 0)
OF_JUST_ONE = (0, 1, 1, 0)


def common_length(one, other):
    length = one
    while length % other != 0:
        length = length + one
    return length


def put_together(one, other, wanted):
    # Behind both heads, both bars begin anew together after their common length, so that many days tell all.
    head = max(len(one[0]), len(other[0]))
    bar = common_length(len(one[1]), len(other[1]))
    days = [wanted[2 * figure_of(one, day) + figure_of(other, day)] for day in range(head + bar)]
    return told(days[:head], days[head:])


def both(one, other):
    return put_together(one, other, OF_BOTH)


def either(one, other):
    return put_together(one, other, OF_EITHER)


def less(one, other):
    return put_together(one, other, OF_FIRST_ALONE)


def apart(one, other):
    return put_together(one, other, OF_JUST_ONE)


def other(pulse):
    return told([1 - figure for figure in pulse[0]], [1 - figure for figure in pulse[1]])
