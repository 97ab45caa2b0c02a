"""Zones, their tables, and the readings that a clock shows under a table.

The functions behind the interface's own ones check nothing: the other modules
call them with what has been checked.
"""

from hoursmeant.checks import check_number, is_number, is_pair
from hoursmeant.errors import (
    InvalidOffset, InvalidPlace, InvalidRule, InvalidTable, InvalidZone, InvalidZones,
)

FARTHEST_OFFSET = 900
MOST_OFFSETS = 3
MOST_SPACING = 1000000
MOST_ZONES = 2
FOLD_RULES = ("early", "late", "refuse")
GAP_RULES = ("ahead", "behind", "refuse")


def is_zone(value):
    """Whether the value is a zone."""
    if not is_pair(value):
        return False
    offsets, spacing = value
    if not _are_offsets(offsets) or not is_number(spacing):
        return False
    return offsets[-1] - offsets[0] < spacing <= MOST_SPACING


def is_zones(value):
    """Whether the value is a tuple of one or two zones."""
    if not isinstance(value, tuple) or not 1 <= len(value) <= MOST_ZONES:
        return False
    return all([is_zone(item) for item in value])


def is_table(zone, value):
    """Whether the value is a table of the zone."""
    check_zone(zone)
    return fits_as_table(zone, value)


def offset_at(zone, table, moment):
    """The offset that holds at the moment."""
    check_zone(zone)
    check_table(zone, table)
    check_number(moment)
    return held_offset(table, moment)


def reading_at(zone, table, moment):
    """The reading at the moment."""
    check_zone(zone)
    check_table(zone, table)
    check_number(moment)
    return moment + held_offset(table, moment)


def moments_of(zone, table, reading):
    """The ascending list of the moments with this reading."""
    check_zone(zone)
    check_table(zone, table)
    check_number(reading)
    return matching_moments(reading, looks_to_find(zone, table, reading))


def find_moment(zone, table, reading, *, fold="early", gap="ahead"):
    """The moment of the reading by the rules, None if it is refused."""
    check_zone(zone)
    check_table(zone, table)
    check_number(reading)
    check_rule(fold, FOLD_RULES)
    check_rule(gap, GAP_RULES)
    return found_moment(reading, looks_to_find(zone, table, reading), fold, gap)


def check_zone(value):
    """Raise InvalidZone unless the value is a zone."""
    if not is_zone(value):
        raise InvalidZone("not a zone")


def check_zones(value):
    """Raise InvalidZones unless the value is a tuple of one or two zones."""
    if not is_zones(value):
        raise InvalidZones("not one or two zones")


def check_place(zones, value):
    """Raise InvalidPlace unless the value is a place of the zones."""
    if not is_place(zones, value):
        raise InvalidPlace("not a place of the zones")


def check_offset(zone, value):
    """Raise InvalidOffset unless the value is one of the offsets of the zone."""
    if not is_offset(zone, value):
        raise InvalidOffset("not an offset of the zone")


def check_table(zone, value):
    """Raise InvalidTable unless the value is a table of the zone."""
    if not fits_as_table(zone, value):
        raise InvalidTable("not a table of the zone")


def check_rule(value, rules):
    """Raise InvalidRule unless the value is one of the rules."""
    if not is_rule(value, rules):
        raise InvalidRule("not a rule")


def fits_as_table(zone, value):
    """Whether the value is a table of what is known to be a zone."""
    if not is_pair(value):
        return False
    offset, jumps = value
    if not is_offset(zone, offset) or not are_marks(zone, jumps):
        return False
    return _are_jumps(zone, offset, jumps)


def is_place(zones, value):
    """Whether the value is a place of what is known to be zones."""
    return is_number(value) and 0 <= value < len(zones)


def is_rule(value, rules):
    """Whether the value is one of the rules."""
    return isinstance(value, str) and value in rules


def is_offset(zone, value):
    """Whether the value is one of the offsets of the zone."""
    return is_number(value) and value in zone[0]


def are_marks(zone, value):
    """Whether the value is a tuple of pairs, each an integer and an offset of the zone."""
    return isinstance(value, tuple) and all([_is_mark(zone, item) for item in value])


def is_ascending(numbers):
    """Whether the numbers are strictly ascending."""
    return all([one < other for one, other in zip(numbers, numbers[1:])])


def held_offset(table, moment):
    """The offset that the table has at the moment."""
    offset, jumps = table
    for start, later in jumps:
        if start > moment:
            break
        offset = later
    return offset


def moments_to_look_at(zone, reading):
    """The reading less each offset, from the greatest one to the least, so ascending."""
    return [reading - offset for offset in zone[0][::-1]]


def looks_to_find(zone, table, reading):
    """The pairs (moment, offset) that decide what becomes of finding the reading."""
    return [(moment, held_offset(table, moment)) for moment in moments_to_look_at(zone, reading)]


def matching_moments(reading, looks):
    """The ascending list of the moments with this reading, by the looks that decide it."""
    return [moment for moment, offset in looks if moment + offset == reading]


def found_moment(reading, looks, fold, gap):
    """The moment of the reading by the rules, None if refused, by the looks that decide it."""
    moments = matching_moments(reading, looks)
    if len(moments) == 1:
        return moments[0]
    if moments:
        return _chosen(fold, FOLD_RULES, moments[0], moments[1])
    # There is at most one jump among the looks, and without one the offset that holds
    # throughout would give a moment. So the first look has the offset ahead of the jump
    # of this gap, and the last one the offset behind it.
    return _chosen(gap, GAP_RULES, reading - looks[0][1], reading - looks[-1][1])


def _are_offsets(value):
    if not isinstance(value, tuple) or not 1 <= len(value) <= MOST_OFFSETS:
        return False
    return all([_is_near(item) for item in value]) and is_ascending(value)


def _is_near(value):
    return is_number(value) and -FARTHEST_OFFSET <= value <= FARTHEST_OFFSET


def _is_mark(zone, value):
    return is_pair(value) and is_number(value[0]) and is_offset(zone, value[1])


def _are_jumps(zone, offset, marks):
    moments = [mark[0] for mark in marks]
    offsets = [offset] + [mark[1] for mark in marks]
    spaced = all([later - moment >= zone[1] for moment, later in zip(moments, moments[1:])])
    return spaced and all([ahead != behind for ahead, behind in zip(offsets, offsets[1:])])


def _chosen(rule, rules, first, second):
    if rule == rules[0]:
        return first
    if rule == rules[1]:
        return second
    return None
