"""Paces: devices that step from version to version at moments nobody knows just, and which versions can meet."""

from atanywrite.checks import need_devices
from atanywrite.errors import Unfit
from atanywrite.shapes import as_set, ascends, frozen, is_name, is_number


def is_paces(thing):
    """Whether thing is PACES."""
    if not isinstance(thing, tuple) or thing == () or not all([_is_pace(pace) for pace in thing]):
        return False
    return ascends([device for device, steps in thing])


def _is_pace(thing):
    """Whether thing is a pair of a device and its steps."""
    if not isinstance(thing, tuple) or len(thing) != 2 or not is_name(thing[0]) or not isinstance(thing[1], tuple):
        return False
    steps = thing[1]
    if not all([_is_step(step) for step in steps]):
        return False
    return ascends([low for low, high in steps]) and ascends([high for low, high in steps])


def _is_step(thing):
    if not isinstance(thing, tuple) or len(thing) != 2 or not all([is_number(moment) for moment in thing]):
        return False
    return 0 <= thing[0] <= thing[1]


def may_have(paces, device, moment):
    """The set of the versions that the device may have at this moment."""
    times = _times(paces, device)
    return tuple([version for version, (low, end) in enumerate(times) if low <= moment and not _is_over(end, moment)])


def _times(paces, device):
    """For each version of the device the first moment at which it may have it, and the first one from which not."""
    steps = {own: behind for own, behind in paces}
    need_devices(steps, [device])
    lows = [0] + [low for low, high in steps[device]]
    # The last version has no end.
    ends = [high for low, high in steps[device]] + [None]
    return list(zip(lows, ends))


def _is_over(end, moment):
    """Whether a time with this end is over at this moment."""
    return end is not None and end <= moment


def surely_has(paces, device, moment):
    """The only version that the device may have at this moment; None if there are several."""
    versions = may_have(paces, device, moment)
    return versions[0] if len(versions) == 1 else None


def _meetings(paces, one, other):
    """For each pair of versions that both may have at one moment the least such moment."""
    mine = _times(paces, one)
    others = _times(paces, other)
    found = {}
    for version, (low, end) in enumerate(mine):
        for another, (start, stop) in enumerate(others):
            both = max(low, start)
            if not _is_over(end, both) and not _is_over(stop, both):
                found[(version, another)] = both
    return found


def _need_two(paces, one, other):
    need_devices([device for device, steps in paces], [one, other])
    if one == other:
        raise Unfit()


def may_meet(paces, one, other):
    """The set of the pairs of versions that both devices may have at one moment."""
    _need_two(paces, one, other)
    return as_set(list(_meetings(paces, one, other)))


def meeting(paces, one, other, pair):
    """The least moment at which both devices may have these versions; None if they never may."""
    _need_two(paces, one, other)
    return _meetings(paces, one, other).get(frozen(pair))


def met_in_all(paces):
    """The set of the pairs of versions, the lesser first, that two unlike devices may have at one moment."""
    devices = [device for device, steps in paces]
    found = []
    for at, one in enumerate(devices):
        for other in devices[at + 1:]:
            found.extend([(min(pair), max(pair)) for pair in list(_meetings(paces, one, other))])
    return as_set(found)


def widest(paces):
    """The greatest difference of two versions that two unlike devices may have at one moment; 0 with one device."""
    return max([high - low for low, high in met_in_all(paces)], default=0)


def is_mixed_well(paces, pairs):
    """Whether pairs has all that two unlike devices may have at one moment."""
    told = frozen(pairs)
    return all([pair in told for pair in met_in_all(paces)])
