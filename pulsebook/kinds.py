"""What the modules share: whole numbers, lists, the figures of days, and the one pulse that has given days."""

from pulsebook.errors import TooLong

LONGEST_HEAD = 400
LONGEST_BAR = 200


def is_whole(value):
    # Python counts True and False among the whole numbers; here they are none.
    return isinstance(value, int) and not isinstance(value, bool)


def is_number(value, least, greatest):
    return is_whole(value) and least <= value <= greatest


def are_numbers(entries, least, greatest):
    return all([is_number(entry, least, greatest) for entry in entries])


def is_list(value, fewest, most):
    return isinstance(value, list) and fewest <= len(value) <= most


def place_in_bar(day, head, bar):
    # The bar goes on backwards too: a day of the head also has a place in it, as % is never below 0 here.
    return (day - len(head)) % len(bar)


def figure_of(pulse, day):
    head = pulse[0]
    bar = pulse[1]
    if day < len(head):
        return head[day]
    return bar[place_in_bar(day, head, bar)]


def places_of_ones(figures):
    return [place for place in range(len(figures)) if figures[place] == 1]


def days_of_head(pulse):
    return places_of_ones(pulse[0])


def first_days_of_bar(pulse):
    return [len(pulse[0]) + place for place in places_of_ones(pulse[1])]


def longer_head(one, other):
    return max(len(one[0]), len(other[0]))


# Behind both heads, both bars begin anew together after so many days.
def common_bar(one, other):
    length = len(one[1])
    while length % len(other[1]) != 0:
        length = length + len(one[1])
    return length


def shortest_bar(bar):
    # The least length at which a bar comes again divides each other such length, so no others need be tried.
    for length in range(1, len(bar)):
        if len(bar) % length == 0 and bar[:length] * (len(bar) // length) == bar:
            return bar[:length]
    return bar


def needed_of_head(head, bar):
    needed = len(head)
    while needed > 0 and head[needed - 1] == bar[place_in_bar(needed - 1, head, bar)]:
        needed = needed - 1
    return needed


def tight(head, bar):
    short = shortest_bar(bar)
    needed = needed_of_head(head, short)
    first = place_in_bar(needed, head, short)
    return (head[:needed], short[first:] + short[:first])


# The bounds hold for the pulse that is told alone: head and bar as reckoned may be longer.
def told(head, bar):
    pulse = tight(tuple(head), tuple(bar))
    if len(pulse[0]) > LONGEST_HEAD:
        raise TooLong("the head would be too long")
    if len(pulse[1]) > LONGEST_BAR:
        raise TooLong("the bar would be too long")
    return pulse
