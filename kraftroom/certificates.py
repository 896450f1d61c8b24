"""Certificates which show that no code that keeps a limit costs less than some lengths."""

from kraftroom.least import FIRST, cost, least_lengths, rests, stage_choices, values
from kraftroom.prefix import is_code


def make_certificate(weights, limit):
    """Return the lengths of the least code, and a certificate that shows it."""
    # A stage from which no choices lead to an end has no value, but has to have
    # a number here. This one is not less than the cost of any code that keeps
    # the limit, so the stages before it may keep their values.
    ceiling = limit * sum(weights)
    known = values(weights, limit)
    certificate = {stage: ceiling if known[stage] is None else known[stage] for stage in known}
    return least_lengths(weights, limit), certificate


def keeps_limit(lengths, limit):
    """Return True if the lengths belong to a code that keeps the limit, otherwise False."""
    # The room is asked last: a length far beyond the limit would make its numbers huge.
    return all(1 <= length <= limit for length in lengths) and is_code(lengths)


def is_stage_low_enough(sums, limit, stage, certificate):
    """Return True if a certificate has all next stages of a stage, and no choice has a lesser sum than its value."""
    for _, price, following in stage_choices(sums, limit, stage):
        if following is None:
            bound = price
        elif following in certificate:
            bound = price + certificate[following]
        else:
            return False
        if certificate[stage] > bound:
            return False
    return True


def is_sound(weights, limit, certificate):
    """Return True if no stage of a certificate has a greater value than its choices allow."""
    sums = rests(weights)
    return all(is_stage_low_enough(sums, limit, stage, certificate) for stage in certificate)


def is_shown(weights, limit, lengths, certificate):
    """Return True if the certificate shows that the lengths have the least cost, otherwise False."""
    if len(lengths) != len(weights) or not keeps_limit(lengths, limit):
        return False
    if FIRST not in certificate or certificate[FIRST] != cost(weights, lengths):
        return False
    return is_sound(weights, limit, certificate)
