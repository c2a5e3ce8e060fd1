"""Forms and pulses: which are refused, the one pulse of a form, and whether a day is in it."""

from pulsebook.errors import BadForm, NotTight
from pulsebook.kinds import LONGEST_BAR, LONGEST_HEAD, are_numbers, figure_of, tight


def is_row(value, fewest, most):
    if not isinstance(value, tuple) or not fewest <= len(value) <= most:
        return False
    return are_numbers(value, 0, 1)


def is_form(value):
    if not isinstance(value, tuple) or len(value) != 2:
        return False
    return is_row(value[0], 0, LONGEST_HEAD) and is_row(value[1], 1, LONGEST_BAR)


# What is refused is not shown in the error's words: it may be of any kind and size, and the showing could fail.
def made(form):
    if not is_form(form):
        raise BadForm("this is no form")
    return tight(form[0], form[1])


def checked(pulse):
    if made(pulse) != pulse:
        raise NotTight("an alike form is shorter")
    return pulse


def has(pulse, day):
    return figure_of(pulse, day) == 1


def never():
    return ((), (0,))


def always():
    return ((), (1,))
