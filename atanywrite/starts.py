"""STARTS of a ROLLOUT: their shape, when classes begin, how many devices are started."""

from atanywrite.shapes import as_set, ascends, is_name, is_number


def are_starts(thing):
    """Whether thing is a ROLLOUT of some CLASSES."""
    if not isinstance(thing, tuple) or not all([_is_start(start) for start in thing]):
        return False
    return ascends([(moment, name) for moment, name, devices in thing])


def _is_start(thing):
    if not isinstance(thing, tuple) or len(thing) != 3:
        return False
    moment, name, devices = thing
    return is_number(moment) and moment >= 0 and is_name(name) and is_number(devices) and devices >= 1


def begins_of(rollout):
    """For each class of the ROLLOUT the moment at which it begins."""
    begins = {}
    for moment, name, _ in rollout:
        begins.setdefault(name, moment)
    return begins


def devices_started(rollout):
    """For each class of the ROLLOUT how many of its devices are started."""
    started = {}
    for _, name, devices in rollout:
        started[name] = started.get(name, 0) + devices
    return started


def counts_of(rollout, delay):
    """The ascending list of the pairs of a moment at which a class begins and its count."""
    begins = begins_of(rollout)
    found = []
    for first in as_set(list(begins.values())):
        harmed = [start[2] for start in rollout if first <= start[0] < first + delay and begins[start[1]] >= first]
        found.append((first, sum(harmed)))
    return found
