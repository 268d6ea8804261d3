"""BOOTS of a DEVICE, and what an EVENT does at a STAND of an ERRAND."""

# In the place of a slot: no trial, or nothing runs. In the place of an ACT: the rest is given up.
NONE = -1
CUT = "cut"
GO = "go"
TEAR = "tear"
WRITE = "write"
TRY = "try"
START = "start"
SURE = "sure"
FLOOR = "floor"


def holds_startable(device, slot):
    """Whether the slot holds a version that is not below the floor."""
    return device[0][slot] > 0 and device[0][slot] >= device[4]


def booted(device):
    """The pair of the DEVICE and the slot that runs behind a BOOT."""
    slots, sure, trial, tries, floor = device
    if trial != NONE and tries > 0 and holds_startable(device, trial):
        return ((slots, sure, trial, tries - 1, floor), trial)
    return ((slots, sure, NONE, 0, floor), sure if holds_startable(device, sure) else NONE)


def stand_booted(device, at):
    """The STAND behind a BOOT, the ACT with this number being next if no trial is given up."""
    started, runs = booted(device)
    is_given_up = device[2] != NONE and started[2] == NONE
    return (started, NONE if is_given_up else at, runs)


def events_at(errand, faults, stand):
    """The ascending list of the EVENTS that can be at this STAND."""
    device, at, runs = stand
    if runs == NONE:
        return []
    if not 0 <= at < len(errand) or device[0][runs] in faults:
        return [CUT]
    if errand[at][0] == WRITE and errand[at][1] != runs:
        return [CUT, GO, TEAR]
    return [CUT, GO]


def behind_event(errand, stand, event):
    """The STAND behind this EVENT, which can be there."""
    device, at, runs = stand
    if event == CUT:
        return stand_booted(device, at)
    act = errand[at]
    if event == TEAR:
        return stand_booted(_with_slot(device, act[1], 0), at)
    if act[0] == START:
        return stand_booted(device, at + 1)
    return (_behind_act(device, runs, act), at + 1, runs)


def _behind_act(device, runs, act):
    """The DEVICE behind this ACT, which is no start."""
    slots, sure, trial, tries, floor = device
    if act[0] == WRITE:
        return device if act[1] == runs else _with_slot(device, act[1], act[2])
    if act[0] == TRY:
        return (slots, sure, act[1], act[2], floor)
    if act[0] == SURE:
        return (slots, runs, NONE, 0, floor)
    return (slots, sure, trial, tries, max(floor, slots[runs]))


def _with_slot(device, slot, version):
    slots, sure, trial, tries, floor = device
    return ((*slots[:slot], version, *slots[slot + 1:]), sure, trial, tries, floor)


def stands_that_come(errand, faults, first):
    """All STANDS to which some EVENTS lead from this one, itself too."""
    seen = {first: True}
    todo = [first]
    while todo:
        stand = todo.pop()
        for event in events_at(errand, faults, stand):
            other = behind_event(errand, stand, event)
            if other not in seen:
                seen[other] = True
                todo.append(other)
    return list(seen)
