"""Days moved: pulses later and earlier, stretched and shrunk."""

from pulsebook.kinds import figure_of, told


# As many days as the head and the bar have tell all: the read days lie no nearer than one by one, so behind the
# length of the head they lie in bars, and the length of the bar further on they lie at the same places.
def read_along(pulse, start, step):
    head = len(pulse[0])
    length = head + len(pulse[1])
    days = [figure_of(pulse, start + step * day) for day in range(length)]
    return told(days[:head], days[head:])


def spread(figures, n):
    return [figures[place // n] if place % n == 0 else 0 for place in range(n * len(figures))]


def later(pulse, n):
    return told((0,) * n + pulse[0], pulse[1])


def earlier(pulse, n):
    return read_along(pulse, n, 1)


def stretched(pulse, n):
    return told(spread(pulse[0], n), spread(pulse[1], n))


def shrunk(pulse, n):
    return read_along(pulse, 0, n)
