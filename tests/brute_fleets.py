"""What the document says of ROLLOUTS, FLEETS and PACES, worked out as its words go, without any of the package."""

import itertools


def subsets(things):
    for many in range(len(things) + 1):
        yield from itertools.combinations(things, many)


def begin(rollout, name):
    return min(moment for moment, own, _ in rollout if own == name)


def classes_in(rollout):
    return sorted({name for _, name, _ in rollout})


def harmed(rollout, delay, bad):
    """The devices harmed, one by one, moment after moment: what is told stops all ahead of what would be started."""
    found = []
    tells = []
    for moment in range(max([start[0] for start in rollout], default=0) + 1):
        if any(told <= moment for told in tells):
            break
        for at, name, devices in rollout:
            if at == moment and name in bad:
                found += [name] * devices
                tells.append(moment + delay)
    return found


def worst(rollout, delay):
    return max(len(harmed(rollout, delay, bad)) for bad in subsets(classes_in(rollout)))


def count(rollout, delay, first):
    return sum(devices for moment, name, devices in rollout
               if first <= moment < first + delay and begin(rollout, name) >= first)


def spreads(devices, moments):
    """All ways in which so many devices are started at these moments: tuples of how many at each."""
    if len(moments) == 1:
        return [(devices,)]
    return [(first, *rest) for first in range(devices + 1) for rest in spreads(devices - first, moments[1:])]


def rollouts_of(classes, moments, whole):
    """All ROLLOUTS of these CLASSES at these moments."""
    ways = []
    for name, devices in classes:
        own = []
        for started in ([devices] if whole else range(devices + 1)):
            for spread in spreads(started, moments) if moments else [()] * (started == 0):
                own.append([(moment, name, many) for moment, many in zip(moments, spread) if many])
        ways.append(own)
    for parts in itertools.product(*ways):
        yield tuple(sorted(start for part in parts for start in part))


def small_rollouts():
    """For CLASSES of a few devices the ROLLOUTS at a few moments, with the CLASSES."""
    for classes, moments in [
        ((), (0,)), ((("a", 2),), (0, 1, 3)), ((("a", 1), ("b", 2)), (0, 1, 2, 4)),
        ((("a", 1), ("b", 1), ("c", 2)), (0, 2, 3)), ((("a", 1), ("b", 1), ("c", 1), ("d", 1)), (0, 1, 2)),
    ]:
        for rollout in rollouts_of(classes, moments, False):
            yield classes, rollout


def soonest(classes, delay, most, beyond):
    """The least last moment, below beyond, of whole ROLLOUTS that harm at most so many; None if there is none."""
    for end in range(beyond):
        for rollout in rollouts_of(classes, tuple(range(end + 1)), True):
            if rollout and rollout[-1][0] == end and worst(rollout, delay) <= most:
                return end
    return None


def timings(fleet):
    return itertools.product(*[tries for _, _, tries in fleet])


def classes_of(fleet):
    return tuple(sorted({name for _, name, _ in fleet}))


def cases(fleet):
    for timing in timings(fleet):
        for bad in subsets(classes_of(fleet)):
            if bad:
                yield timing, bad


def harmed_of(fleet, timing, lates, bad):
    """The devices of bad classes that begin, and the moment that stops them, moment after moment."""
    begun = []
    tells = []
    for moment in range(max(timing) + max(lates) + 1):
        if moment in tells:
            return tuple(begun), moment
        for (device, name, _), own, late in zip(fleet, timing, lates):
            if own == moment and name in bad:
                begun.append(device)
                tells.append(moment + late)
    return None


def most_harmed(fleet, delay):
    return max(len(harmed_of(fleet, timing, (delay,) * len(fleet), bad)[0]) for timing, bad in cases(fleet))


def counted(fleet, delay, moment):
    """What the guarantee counts at this moment."""
    late = [name for name in classes_of(fleet) if all(tries[-1] >= moment for _, own, tries in fleet if own == name)]
    members = [tries for _, name, tries in fleet if name in late]
    if not any(moment in tries for tries in members):
        return 0
    return sum(any(moment <= own < moment + delay for own in tries) for tries in members)


def small_fleets():
    """FLEETS of one to three devices with tries at few moments, in one, two or three classes."""
    tries = [some for some in subsets((0, 1, 3)) if some]
    for many in (1, 2, 3):
        names = ("ann", "bob", "cy")[:many]
        for at, own in enumerate(itertools.product(tries, repeat=many)):
            for classes in itertools.product("xyz", repeat=many):
                if many < 3 or at % 5 == 0:
                    yield tuple(zip(names, classes, own))


def runs_of(steps):
    """All ways in which these steps come: tuples of ascending moments."""
    found = [()]
    for low, high in steps:
        found = [(*run, moment) for run in found for moment in range(low, high + 1) if not run or moment > run[-1]]
    return found


def versions_at(steps, moment):
    return {sum(own <= moment for own in run) for run in runs_of(steps)}


def small_steps():
    """Tuples of up to two steps within a few moments."""
    pairs = [(low, high) for low in range(4) for high in range(low, 5)]
    found = [()] + [(pair,) for pair in pairs]
    found += [(one, two) for one in pairs for two in pairs if one[0] < two[0] and one[1] < two[1]]
    return found + [((0, 2), (1, 3), (2, 4)), ((0, 0), (1, 1), (2, 2)), ((1, 4), (2, 5), (5, 6))]
