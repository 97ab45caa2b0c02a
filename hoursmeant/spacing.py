"""Looks at offsets, and whether jumps that keep the spacing can make them.

The functions behind the interface's own ones check nothing: the other modules
call them with what has been checked.
"""

from hoursmeant.checks import check_number
from hoursmeant.errors import InvalidLooks
from hoursmeant.zones import are_marks, check_zone, is_ascending


def is_looks(zone, value):
    """Whether the value is looks of the zone."""
    check_zone(zone)
    return fits_as_looks(zone, value)


def can_hold(zone, looks):
    """Whether some table of the zone has the looks."""
    check_zone(zone)
    check_looks(zone, looks)
    return crowded_stretch(zone[1], looks) is None


def crowded(zone, looks):
    """None if the looks can be, else the pair of the indexes of the ends of a crowded stretch."""
    check_zone(zone)
    check_looks(zone, looks)
    return crowded_stretch(zone[1], looks)


def early_table(zone, looks):
    """The early table of the looks, None if they cannot be."""
    check_zone(zone)
    check_looks(zone, looks)
    if crowded_stretch(zone[1], looks) is not None:
        return None
    return earliest_table(zone, looks)


def offsets_left(zone, looks, moment):
    """The ascending list of the offsets that can be at the moment with these looks."""
    check_zone(zone)
    check_looks(zone, looks)
    check_number(moment)
    return fitting_offsets(zone, looks, moment)


def check_looks(zone, value):
    """Raise InvalidLooks unless the value is looks of the zone."""
    if not fits_as_looks(zone, value):
        raise InvalidLooks("not looks of the zone")


def fits_as_looks(zone, value):
    """Whether the value is looks of what is known to be a zone."""
    return are_marks(zone, value) and is_ascending([look[0] for look in value])


def crowded_stretch(spacing, looks):
    """The crowded stretch with the least last index, of these with the greatest first one, or None."""
    loads = _loads(spacing, looks)
    lightest = None
    for last, load in enumerate(loads):
        if lightest is not None and load - lightest >= spacing:
            return max([first for first in range(last) if load - loads[first] >= spacing]), last
        if lightest is None or load < lightest:
            lightest = load
    return None


def earliest_table(zone, looks):
    """The early table of looks that can be."""
    offsets, spacing = zone
    if not looks:
        return offsets[0], ()
    jumps = []
    for look, following in zip(looks, looks[1:]):
        if look[1] == following[1]:
            continue
        moment = look[0] + 1
        if jumps:
            moment = max(moment, jumps[-1][0] + spacing)
        jumps.append((moment, following[1]))
    return looks[0][1], tuple(jumps)


def fitting_offsets(zone, looks, moment):
    """The ascending list of the offsets that can be at the moment with these looks."""
    offsets, spacing = zone
    ahead = tuple([look for look in looks if look[0] < moment])
    behind = tuple([look for look in looks if look[0] > moment])
    seen = [look[1] for look in looks if look[0] == moment]
    left = []
    for offset in seen or offsets:
        if crowded_stretch(spacing, ahead + ((moment, offset),) + behind) is None:
            left.append(offset)
    return left


def _loads(spacing, looks):
    # With c changes and d minutes from a look to a later one, that stretch is crowded if
    # (c - 1) * spacing > d - 1, so if c * spacing - d >= spacing. The left side is how
    # much more load the later look has than the earlier one, so no stretch need be walked.
    loads = []
    changes = 0
    for k, look in enumerate(looks):
        if k > 0 and look[1] != looks[k - 1][1]:
            changes += 1
        loads.append(changes * spacing - look[0])
    return loads
