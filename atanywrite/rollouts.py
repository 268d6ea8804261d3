"""Rollouts: an update started class by class, and how many devices it can harm, whichever classes it is bad for."""

from atanywrite.checks import need_classes
from atanywrite.errors import Unfit
from atanywrite.shapes import as_set, ascends, frozen, is_name, is_number, is_set_of
from atanywrite.starts import are_starts, begins_of, counts_of, devices_started


def is_classes(thing):
    """Whether thing is CLASSES."""
    if not isinstance(thing, tuple) or not all([_is_class(pair) for pair in thing]):
        return False
    return ascends([name for name, devices in thing])


def _is_class(thing):
    """Whether thing is a pair of a class and how many devices it has."""
    if not isinstance(thing, tuple) or len(thing) != 2:
        return False
    name, devices = thing
    return is_name(name) and is_number(devices) and devices >= 1


def is_rollout(classes, thing):
    """Whether thing is a ROLLOUT of these CLASSES."""
    if not are_starts(thing):
        return False
    has = _devices(classes)
    started = devices_started(thing)
    return all([started[name] <= has.get(name, 0) for name in list(started)])


def _devices(classes):
    """For each class how many devices it has."""
    return {name: devices for name, devices in classes}


def is_whole(classes, rollout):
    """Whether all devices of all classes are started."""
    return devices_started(rollout) == _devices(classes)


def begin_of(rollout, name):
    """The moment at which this class begins."""
    begins = begins_of(rollout)
    need_classes(begins, [name])
    return begins[name]


def left_of(classes, rollout, name):
    """How many devices of this class are not started."""
    has = _devices(classes)
    need_classes(has, [name])
    return has[name] - devices_started(rollout).get(name, 0)


def last_start(rollout):
    """The last moment of a START; None without any."""
    return rollout[-1][0] if rollout else None


def stop_of(rollout, delay, bad):
    """The moment at which all stops; None if the update is bad for none."""
    begins = begins_of(rollout)
    need_classes(begins, bad)
    return min([begins[name] for name in bad]) + delay if bad else None


def done_by(rollout, delay, bad):
    """The ROLLOUT of the STARTS that are carried out."""
    stop = stop_of(rollout, delay, bad)
    return tuple([start for start in frozen(rollout) if stop is None or start[0] < stop])


def harmed_of(rollout, delay, bad):
    """The set of the pairs of a class and how many of its devices are harmed, for those of which any are."""
    started = devices_started(done_by(rollout, delay, bad))
    return as_set([(name, started[name]) for name in list(started) if name in bad])


def harm(rollout, delay, bad):
    """How many devices are harmed."""
    return sum([devices for name, devices in harmed_of(rollout, delay, bad)])


def well_at(rollout, delay, moment):
    """The set of the classes that would have told by this moment if the update were bad for them."""
    begins = begins_of(rollout)
    return as_set([name for name in list(begins) if begins[name] + delay <= moment])


def begin_counts(rollout, delay):
    """The ascending tuple of the pairs of a moment at which a class begins and its count."""
    return tuple(counts_of(rollout, delay))


def worst_harm(rollout, delay):
    """The most devices that can be harmed, whichever classes are bad."""
    return max([count for moment, count in counts_of(rollout, delay)], default=0)


def worst_bad(rollout, delay):
    """Of the sets of classes by which so many are harmed those with the fewest classes: the least."""
    worst = worst_harm(rollout, delay)
    moments = [moment for moment, count in counts_of(rollout, delay) if count == worst]
    found = [_begun_within(rollout, delay, moment) for moment in moments]
    return min([(len(some), some) for some in found], default=(0, ()))[1]


def _begun_within(rollout, delay, moment):
    """The set of the classes that begin from this moment on and less than delay behind it: they make its count."""
    begins = begins_of(rollout)
    return as_set([name for name in list(begins) if moment <= begins[name] < moment + delay])


def is_mild(rollout, delay, most):
    """Whether at most so many devices are harmed, whichever classes are bad."""
    return worst_harm(rollout, delay) <= most


def over(rollout, delay, most):
    """A pair of a moment and a set of classes, the first of which begins then, that harms more; None without any."""
    for moment, count in counts_of(rollout, delay):
        if count > most:
            return (moment, _begun_within(rollout, delay, moment))
    return None


def is_over(rollout, delay, most, thing):
    """Whether thing is such a pair."""
    if not isinstance(thing, tuple) or len(thing) != 2:
        return False
    moment, bad = thing
    begins = begins_of(rollout)
    if not is_number(moment) or not is_set_of(begins, bad) or bad == ():
        return False
    return moment == min([begins[name] for name in bad]) and harm(rollout, delay, bad) > most


def may_start(classes, rollout, delay, most, moment, name):
    """How many more devices of this class can be started at this moment; None if too many can be harmed already."""
    left = left_of(classes, rollout, name)
    if not is_mild(rollout, delay, most):
        return None
    # Once one more is started, each further one harms more or as many.
    more = 0
    while more < left and is_mild(_with_start(rollout, (moment, name, more + 1)), delay, most):
        more += 1
    return more


def _with_start(rollout, start):
    """The ROLLOUT with so many more devices of this class started at this moment."""
    return _merged([*frozen(rollout), start])


def _merged(starts):
    """The ROLLOUT of these STARTS, those of a class at one moment told as one."""
    found = {}
    for moment, name, devices in starts:
        found[(moment, name)] = found.get((moment, name), 0) + devices
    return tuple([(*key, found[key]) for key in sorted(list(found))])


def tamed(rollout, delay, most):
    """The STARTS, one after the other, of each as many devices as let it and those kept so far be mild."""
    kept = ()
    for moment, name, devices in rollout:
        fit = [many for many in range(1, devices + 1) if is_mild((*kept, (moment, name, many)), delay, most)]
        if fit:
            kept = (*kept, (moment, name, fit[-1]))
    return kept


def soonest_end(classes, delay, most):
    """The least last moment of whole ROLLOUTS that are mild; None if there are none, or no classes."""
    return last_start(quickest(classes, delay, most) or ())


def quickest(classes, delay, most):
    """A whole mild ROLLOUT with this last moment; None if there is none."""
    if most == 0:
        return () if len(classes) == 0 else None
    by_size = sorted([(devices, name) for name, devices in classes])
    small = _how_many_fit(by_size, most)
    tried = by_size[small:]
    end = delay * ((len(tried) + most - 1) // most)
    # One device each of so many classes at a time; all else when these have told nothing.
    first = [(delay * (at // most), name, 1) for at, (_, name) in enumerate(tried)]
    rest = [(end, name, devices - 1) for devices, name in tried if devices > 1]
    return tuple(sorted(first + rest + [(end, name, devices) for devices, name in by_size[:small]]))


def _how_many_fit(by_size, most):
    """How many of the smallest classes have at most so many devices together."""
    together = 0
    for at, (devices, _) in enumerate(by_size):
        together += devices
        if together > most:
            return at
    return len(by_size)


def is_quickest(classes, delay, most, thing):
    """Whether thing is a whole mild ROLLOUT that ends as soon as can be."""
    if not is_rollout(classes, thing) or not is_whole(classes, thing) or not is_mild(thing, delay, most):
        return False
    return last_start(thing) == soonest_end(classes, delay, most)


def least_most(classes, delay, moment):
    """The least number with which a whole ROLLOUT that is mild has no START behind this moment."""
    if len(classes) == 0:
        return 0
    # With one device of each class at once all can be started a delay later; with all devices, at once.
    for most in range(1, len(classes) + 1):
        if soonest_end(classes, delay, most) <= moment:
            return most
    return sum([devices for name, devices in classes])


def as_one(classes, one, other):
    """The CLASSES with the devices of other as devices of one."""
    has = _devices(classes)
    _need_two(has, one, other)
    has[one] += has[other]
    return tuple([(name, has[name]) for name, devices in classes if name != other])


def _need_two(known, one, other):
    need_classes(known, [one, other])
    if one == other:
        raise Unfit()


def starts_as_one(rollout, one, other):
    """The ROLLOUT with the devices of other as devices of one."""
    _need_two(begins_of(rollout), one, other)
    return _merged([(moment, one if name == other else name, devices) for moment, name, devices in rollout])
