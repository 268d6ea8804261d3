"""Fleets: devices asked to begin at some moments, and how many of them an update can harm, whenever they do."""

from atanywrite.checks import need_classes, need_devices
from atanywrite.errors import Unfit
from atanywrite.shapes import as_set, ascends, frozen, is_name, is_number, is_number_set, is_set_of


def is_fleet(thing):
    """Whether thing is a FLEET."""
    if not isinstance(thing, tuple) or thing == () or not all([_is_member(member) for member in thing]):
        return False
    return ascends([member[0] for member in thing])


def _is_member(thing):
    """Whether thing is a triple of a device, its class and its tries."""
    if not isinstance(thing, tuple) or len(thing) != 3:
        return False
    device, name, tries = thing
    return is_name(device) and is_name(name) and is_number_set(tries, 0) and tries != ()


def is_timing(fleet, thing):
    """Whether thing is a TIMING."""
    if not isinstance(thing, tuple) or len(thing) != len(fleet):
        return False
    return all([is_number(moment) and moment in member[2] for moment, member in zip(thing, fleet)])


def _classes(fleet):
    """The set of the classes."""
    return as_set([name for device, name, tries in fleet])


def devices_of(fleet, name):
    """The set of the devices of this class."""
    need_classes(_classes(fleet), [name])
    return tuple([device for device, own, tries in fleet if own == name])


def surely_begun(fleet, moment):
    """The set of the devices that have begun by this moment in each TIMING."""
    return tuple([device for device, name, tries in fleet if tries[-1] <= moment])


def maybe_begun(fleet, moment):
    """The set of the devices that have begun by this moment in some TIMING."""
    return tuple([device for device, name, tries in fleet if tries[0] <= moment])


def awake_from(fleet, device, moment):
    """The FLEET if this device turns out to be awake from this moment on, and not ahead of it."""
    members = frozen(fleet)
    need_devices([member[0] for member in members], [device])
    return tuple([_awake(member, moment) if member[0] == device else member for member in members])


def _awake(member, moment):
    device, name, tries = member
    later = [own for own in tries if own >= moment]
    if later == []:
        raise Unfit()
    return (device, name, (later[0],))


def harmed(fleet, timing, lates, bad):
    """The set of the devices that are harmed."""
    stop = stopped_at(fleet, timing, lates, bad)
    members = list(zip(fleet, timing))
    return tuple([member[0] for member, moment in members if member[1] in bad and moment < stop])


def stopped_at(fleet, timing, lates, bad):
    """The moment from which on nobody begins any more."""
    need_classes(_classes(fleet), bad)
    if len(bad) == 0:
        raise Unfit()
    # What would tell first has begun ahead of that, so it does tell.
    return min([moment + late for member, moment, late in zip(fleet, timing, lates) if member[1] in bad])


def fleet_counts(fleet, delay):
    """The ascending tuple of the pairs of a moment of a try and how many can be harmed from it on."""
    found = []
    for moment in _moments(fleet):
        found.append((moment, len([behind for behind in _behind(fleet, moment) if behind < delay])))
    return tuple(found)


def _moments(fleet):
    """The set of the moments of all tries."""
    return as_set([moment for device, name, tries in fleet for moment in tries])


def _bad_from(fleet, moment):
    """The set of the classes all of whose devices have a try at this moment or later."""
    early = [name for device, name, tries in fleet if tries[-1] < moment]
    return tuple([name for name in _classes(fleet) if name not in early])


def _behind(fleet, moment):
    """How far behind this moment each device of these classes first has a try; [] if none has one at it."""
    bad = _bad_from(fleet, moment)
    found = sorted([_first_from(tries, moment) - moment for device, name, tries in fleet if name in bad])
    return found if found[:1] == [0] else []


def _first_from(tries, moment):
    """The first try at this moment or later; the last one if there is none."""
    return min([own for own in tries if own >= moment], default=tries[-1])


def most_harmed(fleet, delay):
    """How many devices are harmed at the most."""
    return max([many for moment, many in fleet_counts(fleet, delay)])


def harms_at_most(fleet, delay, many):
    """Whether at most so many devices are harmed in all CASES."""
    return most_harmed(fleet, delay) <= many


def worst_case(fleet, delay):
    """A CASE in which the most devices are harmed."""
    most = most_harmed(fleet, delay)
    return case_above(fleet, delay, most - 1)


def is_worst_case(fleet, delay, thing):
    """Whether thing is a CASE in which the most devices are harmed."""
    return is_case_above(fleet, delay, most_harmed(fleet, delay) - 1, thing)


def case_above(fleet, delay, many):
    """A CASE in which more devices are harmed than so many; None if there is none."""
    for moment, count in fleet_counts(fleet, delay):
        if count > many:
            timing = tuple([_first_from(tries, moment) for device, name, tries in fleet])
            return (timing, _bad_from(fleet, moment))
    return None


def is_case_above(fleet, delay, many, thing):
    """Whether thing is a CASE in which more devices are harmed than so many."""
    if not _is_case(fleet, thing):
        return False
    timing, bad = thing
    return len(harmed(fleet, timing, (delay,) * len(fleet), bad)) > many


def _is_case(fleet, thing):
    if not isinstance(thing, tuple) or len(thing) != 2 or not is_timing(fleet, thing[0]):
        return False
    return is_set_of(_classes(fleet), thing[1]) and thing[1] != ()


def greatest_delay(fleet, many):
    """The greatest delay with which at most so many are harmed, 0 if there is none; None if they are with each."""
    found = [_behind(fleet, moment) for moment in _moments(fleet)]
    # One more than so many are harmed as soon as the delay is greater than how far behind the last of them begins.
    return min([behind[many] for behind in found if len(behind) > many], default=None)
