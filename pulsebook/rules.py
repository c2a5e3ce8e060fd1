"""Pulses made of rules, and told by rules again."""

from pulsebook.errors import BadRule
from pulsebook.kinds import days_of_head, first_days_of_bar, is_list, is_number, told
from pulsebook.pulses import never
from pulsebook.sets import either

MOST_RULES = 12
LATEST_START = 400
LONGEST_STEP = 200
MOST_TIMES = 400


def is_rule(value):
    if not isinstance(value, tuple) or len(value) != 3:
        return False
    if not is_number(value[0], 0, LATEST_START) or not is_number(value[1], 1, LONGEST_STEP):
        return False
    return value[2] is None or is_number(value[2], 1, MOST_TIMES)


# All rules are looked at ahead of any reckoning, so that a wrong one is told of even behind one that is too long.
def check_rules(rules):
    if not is_list(rules, 0, MOST_RULES):
        raise BadRule(None)
    for place in range(len(rules)):
        if not is_rule(rules[place]):
            raise BadRule(place)


def pulse_of_rule(rule):
    ahead = (0,) * rule[0]
    one_step = (1,) + (0,) * (rule[1] - 1)
    if rule[2] is None:
        return told(ahead, one_step)
    return told(ahead + one_step * rule[2], (0,))


def from_rules(rules):
    check_rules(rules)
    pulse = never()
    for rule in rules:
        pulse = either(pulse, pulse_of_rule(rule))
    return pulse


def rules_of(pulse):
    step = len(pulse[1])
    return [(day, 1, 1) for day in days_of_head(pulse)] + [(day, step, None) for day in first_days_of_bar(pulse)]
