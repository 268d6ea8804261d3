"""Slots from which a DEVICE starts, and ERRANDS that bring new versions into them."""

from atanywrite.boots import FLOOR, GO, NONE, START, SURE, TRY, WRITE
from atanywrite.boots import behind_event, booted, events_at, holds_startable, stand_booted, stands_that_come
from atanywrite.checks import need_number
from atanywrite.errors import CanNot
from atanywrite.shapes import as_set, ascends, frozen, is_number, is_number_set

LOST = "lost"
STUCK = "stuck"
BACK = "back"
DONE = "done"
GOING = "going"
MOST_TRIES = 3


def is_device(thing):
    """Whether thing is a DEVICE."""
    if not isinstance(thing, tuple) or len(thing) != 5 or not all([is_number(part) for part in thing[1:]]):
        return False
    slots, sure, trial, tries, floor = thing
    if not isinstance(slots, tuple) or len(slots) not in (2, 3):
        return False
    if not all([is_number(version) and version >= 0 for version in slots]):
        return False
    if not 0 <= sure < len(slots) or not NONE <= trial < len(slots) or floor < 0:
        return False
    return 0 <= tries <= MOST_TRIES and (trial != NONE or tries == 0)


def is_errand(device, thing):
    """Whether thing is an ERRAND for the slots of this DEVICE."""
    return isinstance(thing, tuple) and all([_is_act(len(device[0]), act) for act in thing])


def _is_act(many, thing):
    """Whether thing is an ACT for so many slots."""
    if thing in ((START,), (SURE,), (FLOOR,)):
        return True
    if not isinstance(thing, tuple) or len(thing) != 3 or not all([is_number(part) for part in thing[1:]]):
        return False
    word, slot, number = thing
    if not 0 <= slot < many or number < 1:
        return False
    return word == WRITE or word == TRY and number <= MOST_TRIES


def can_start(device, slot):
    """Whether this slot holds a version that is not below the floor."""
    need_number(slot, 0, len(device[0]) - 1)
    return holds_startable(device, slot)


def device_started(device):
    """The pair of the DEVICE and the slot that runs behind a BOOT."""
    return booted(frozen(device))


def first_stand(errand, device):
    """The STAND at which the ERRAND begins."""
    return stand_booted(frozen(device), 0)


def stand_behind(errand, faults, stand, event):
    """The STAND behind this EVENT."""
    if event not in events_at(errand, faults, stand):
        raise CanNot()
    return behind_event(frozen(errand), frozen(stand), event)


def stands_along(errand, device, faults, events):
    """The list of the STANDS along these EVENTS, from the first one on."""
    stands = [first_stand(errand, device)]
    for event in events:
        stands.append(stand_behind(errand, faults, stands[-1], event))
    return stands


def fate(errand, faults, stand):
    """The first of the words for what becomes of this STAND that fits."""
    device, at, runs = stand
    if runs == NONE:
        return LOST
    if device[0][runs] in faults and device[2] == NONE:
        return STUCK
    if at == NONE:
        return BACK
    return DONE if at == len(errand) and device[2] == NONE else GOING


def _come(errand, device, faults):
    """The STANDS that come with these FAULTS."""
    return stands_that_come(frozen(errand), frozen(faults), first_stand(errand, device))


def all_stands(errand, device):
    """The ascending list of the STANDS that come."""
    return sorted(_come(errand, device, ()))


def fates(errand, device, faults):
    """The set of the fates of the STANDS that come with these FAULTS, but going."""
    return as_set([word for word, version in ends_with(errand, device, faults)])


def ends_with(errand, device, faults):
    """The set of the pairs of such a fate and the version that runs, 0 if it is lost."""
    found = [(fate(errand, faults, stand), _version_at(stand)) for stand in _come(errand, device, faults)]
    return as_set([pair for pair in found if pair[0] != GOING])


def _version_at(stand):
    """The version that runs; 0 if nothing does."""
    return 0 if stand[2] == NONE else stand[0][0][stand[2]]


def is_safe(errand, device):
    """Whether no lost STAND comes."""
    return all([stand[2] != NONE for stand in _come(errand, device, ())])


def bad_acts(errand, device):
    """The set of the numbers of the ACTS that are next at bad STANDS that come."""
    return as_set([stand[1] for stand in _come(errand, device, ()) if _is_bad(errand, stand)])


def _is_bad(errand, stand):
    device, at, runs = stand
    if runs in (NONE, device[1]) or not 0 <= at < len(errand):
        return False
    if errand[at][0] == WRITE:
        return errand[at][1] == device[1]
    return errand[at][0] == FLOOR and _version_at(stand) > device[0][device[1]]


def lost_events(errand, device):
    """Of the shortest tuples of EVENTS to a lost STAND the least; None if there is none."""
    return _events_to(errand, device, (), LOST)


def _events_to(errand, device, faults, word):
    """Of the shortest tuples of EVENTS to a STAND of this fate the least; None if there is none."""
    told = frozen(errand)
    first = first_stand(errand, device)
    seen = {first: True}
    # In ascending order; so of several tuples to one STAND the least comes first.
    level = [((), first)]
    while level:
        longer = []
        for events, stand in level:
            if fate(told, faults, stand) == word:
                return events
            for event in events_at(told, faults, stand):
                other = behind_event(told, stand, event)
                if other not in seen:
                    seen[other] = True
                    longer.append(((*events, event), other))
        level = longer
    return None


def stuck_run(errand, device):
    """A pair of FAULTS and EVENTS that lead to a stuck STAND; None if there is none."""
    versions = [*device[0], *[act[2] for act in errand if act[0] == WRITE]]
    for version in as_set([version for version in versions if version > 0 and version != _sure_version(device)]):
        # With fewer FAULTS more comes, so one alone is enough.
        events = _events_to(errand, device, (version,), STUCK)
        if events is not None:
            return ((version,), events)
    return None


def _sure_version(device):
    return device[0][device[1]]


def is_stuck_run(errand, device, thing):
    """Whether thing is a pair of FAULTS and EVENTS that lead to a stuck STAND."""
    if not isinstance(thing, tuple) or len(thing) != 2:
        return False
    faults, events = thing
    if not is_number_set(faults, 1) or _sure_version(device) in faults or not isinstance(events, tuple):
        return False
    told = frozen(errand)
    stand = first_stand(told, device)
    for event in events:
        if event not in events_at(told, faults, stand):
            return False
        stand = behind_event(told, stand, event)
    return fate(told, faults, stand) == STUCK


def keep(errand, device):
    """A KEEP; None if the ERRAND is not safe."""
    return tuple(all_stands(errand, device)) if is_safe(errand, device) else None


def is_keep(errand, device, thing):
    """Whether thing is a KEEP."""
    if not isinstance(thing, tuple) or not all([_is_stand(errand, device, stand) for stand in thing]):
        return False
    known = {stand: True for stand in thing}
    if not ascends(thing) or first_stand(errand, device) not in known:
        return False
    told = frozen(errand)
    for stand in thing:
        if stand[2] == NONE:
            return False
        if not all([behind_event(told, stand, event) in known for event in events_at(told, (), stand)]):
            return False
    return True


def _is_stand(errand, device, thing):
    """Whether thing is a STAND, come to or not, for as many slots as the DEVICE has."""
    if not isinstance(thing, tuple) or len(thing) != 3 or not is_device(thing[0]):
        return False
    slots = thing[0][0]
    _, at, runs = thing
    if len(slots) != len(device[0]) or not is_number(at) or not is_number(runs):
        return False
    return NONE <= at <= len(errand) and NONE <= runs < len(slots)


def fewest_cuts(errand, device, word):
    """With how few cuts and tears a STAND of this fate comes; None if none does."""
    told = frozen(errand)
    seen = {}
    cuts = 0
    level = [first_stand(errand, device)]
    while level:
        come = _by_going(told, level, seen)
        if any([fate(told, (), stand) == word for stand in come]):
            return cuts
        level = []
        for stand in come:
            hurts = [event for event in events_at(told, (), stand) if event != GO]
            level.extend([behind_event(told, stand, event) for event in hurts])
        cuts += 1
    return None


def _by_going(errand, stands, seen):
    """The STANDS, not seen so far, that come from these by going on alone, these too."""
    found = []
    todo = list(stands)
    while todo:
        stand = todo.pop()
        if stand not in seen:
            seen[stand] = True
            found.append(stand)
            if GO in events_at(errand, (), stand):
                todo.append(behind_event(errand, stand, GO))
    return found


def _done(errand, device):
    """The STANDS that come and are done."""
    return [stand for stand in _come(errand, device, ()) if fate(errand, (), stand) == DONE]


def left_versions(errand, device):
    """The set of the versions in slots that can start at STANDS that come and are done."""
    found = []
    for device_then, _, _ in _done(errand, device):
        startable = [slot for slot in range(len(device_then[0])) if holds_startable(device_then, slot)]
        found.extend([device_then[0][slot] for slot in startable])
    return as_set(found)


def errand_for(device, version):
    """A safe ERRAND with the fewest ACTS by which this version comes to run; None if it is below the floor."""
    slots, sure, _, _, floor = device
    if version < floor:
        return None
    if slots[sure] == version:
        return ()
    others = [slot for slot in range(len(slots)) if slot != sure]
    holding = [slot for slot in others if slots[slot] == version]
    # Only a start makes sure that the slot which is tried runs when it becomes the sure one.
    if holding:
        return ((TRY, holding[0], 1), (START,), (SURE,))
    return ((WRITE, others[0], version), (TRY, others[0], 1), (START,), (SURE,))


def is_errand_for(device, version, thing):
    """Whether thing is such an ERRAND."""
    errand = errand_for(device, version)
    if errand is None or not is_errand(device, thing) or len(thing) != len(errand):
        return False
    done = _done(thing, device)
    if done == [] or not is_safe(thing, device):
        return False
    return all([stand[2] == stand[0][1] and _version_at(stand) == version for stand in done])
