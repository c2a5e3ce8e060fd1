"""Pulses written as texts, and read again."""

from pulsebook.errors import BadText, PulseError
from pulsebook.pulses import checked

FIGURES = {"0": 0, "1": 1}


def written(figures):
    return "".join([str(figure) for figure in figures])


def shown(pulse):
    return written(pulse[0]) + "|" + written(pulse[1])


# Another sign becomes None, so that what it stands in is no form.
def figures_of(part):
    return tuple([FIGURES.get(sign) for sign in part])


# One part or more than two make no form either, as a form is a tuple of two.
def read(text):
    if not isinstance(text, str):
        raise BadText("this is no text")
    parts = [figures_of(part) for part in text.split("|")]
    try:
        return checked(tuple(parts))
    except PulseError:
        raise BadText("no pulse is written so") from None
