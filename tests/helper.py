"""What the tests reckon by themselves, day by day, to hold against the program."""

from itertools import product
from math import lcm
from random import Random


def figure(form, day):
    """The figure of a day, read from the words of promise [2]."""
    head, bar = form
    return head[day] if day < len(head) else bar[(day - len(head)) % len(bar)]


def figures(form, length):
    return [figure(form, day) for day in range(length)]


def days_below(form, length):
    """The days of a form below a day, one by one."""
    return [day for day in range(length) if figure(form, day) == 1]


def rows(longest, fewest=0):
    """All tuples of noughts and ones of the told lengths."""
    return [row for length in range(fewest, longest + 1) for row in product((0, 1), repeat=length)]


def forms(longest_head, longest_bar):
    return [(head, bar) for head in rows(longest_head) for bar in rows(longest_bar, 1)]


def tightest(days, head, bar):
    """The head and bar of days that come again from day `head` on each `bar` days; `days` tells head + 2 * bar."""
    step = next(n for n in range(1, bar + 1) if days[head:head + bar] == days[head + n:head + n + bar])
    start = head
    while start > 0 and days[start - 1] == days[start - 1 + step]:
        start -= 1
    return tuple(days[:start]), tuple(days[start:start + step])


def pulse_of_days(one, other, joined):
    """The head and bar, however long, of the days that `joined` tells from the figures of two forms."""
    head = max(len(one[0]), len(other[0]))
    bar = lcm(len(one[1]), len(other[1]))
    pairs = zip(figures(one, head + 2 * bar), figures(other, head + 2 * bar))
    return tightest([joined(mine, theirs) for mine, theirs in pairs], head, bar)


def every(*steps):
    """The form without a head of the days that one of the steps divides."""
    return (), tuple(int(any(day % step == 0 for step in steps)) for day in range(lcm(*steps)))


def at(step, place):
    """The form of each day that leaves `place` by `step`."""
    return (), tuple(int(day == place) for day in range(step))


def turned(form):
    return tuple(tuple(1 - entry for entry in part) for part in form)


def just(*days):
    """The pulse of a few days, none behind them."""
    return tuple(int(day in days) for day in range(max(days) + 1)), (0,)


def is_too_long(pulse):
    """Whether promise [4] refuses the pulse."""
    return len(pulse[0]) > 400 or len(pulse[1]) > 200


def some_forms(seed, number, longest_head, longest_bar):
    """Forms that look like chance but are the same ones each time."""
    draw = Random(seed)
    made = []
    for _ in range(number):
        head = tuple(draw.randrange(2) for _ in range(draw.randint(0, longest_head)))
        bar = tuple(draw.randrange(2) for _ in range(draw.randint(1, longest_bar)))
        made.append((head, bar))
    return made
