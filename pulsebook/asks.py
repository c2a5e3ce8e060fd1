"""What a pulse is asked: its next and last days, how many there are, which one comes when, and how it goes on."""

from pulsebook.kinds import places_of_ones


def count(pulse, day):
    in_head = min(day, len(pulse[0]))
    behind = day - in_head
    bars = behind // len(pulse[1])
    rest = behind % len(pulse[1])
    return sum(pulse[0][:in_head]) + bars * sum(pulse[1]) + sum(pulse[1][:rest])


def day_at(pulse, n):
    days = places_of_ones(pulse[0])
    if n < len(days):
        return days[n]
    places = places_of_ones(pulse[1])
    if len(places) == 0:
        return None
    behind = n - len(days)
    bars = behind // len(places)
    return len(pulse[0]) + bars * len(pulse[1]) + places[behind % len(places)]


# As many days as lie below a day, that is the number of the first one that does not.
def next_day(pulse, day):
    return day_at(pulse, count(pulse, day))


def last_day(pulse, day):
    below = count(pulse, day)
    if below == 0:
        return None
    return day_at(pulse, below - 1)


def ends(pulse):
    return 1 not in pulse[1]


def is_empty(pulse):
    return ends(pulse) and 1 not in pulse[0]


def greatest(pulse):
    if not ends(pulse):
        return None
    return last_day(pulse, len(pulse[0]))


def longest_gap(pulse):
    if ends(pulse):
        return None
    # A gap may go from one bar into the next; behind the second bar, each gap has been seen.
    days = places_of_ones(pulse[0] + pulse[1] + pulse[1])
    return max([days[k] - days[k - 1] - 1 for k in range(1, len(days))])
