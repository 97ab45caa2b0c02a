"""What several tests share: odd values, and the definitions of DOC.md spelled out slowly.

Nothing in this file uses the functions that are tested, so that the tests compare two
ways to the same answer.
"""

import inspect

from hoursmeant.errors import HourError, Refused


def nested(depth):
    """A tuple in a tuple in a tuple, and so on."""
    value = ()
    for _ in range(depth - 1):
        value = (value,)
    return value


# None of these is a zone, zones, a table, looks with a look, a rule, or an integer.
ODD_VALUES = (
    None, True, False, "", "0", "early\n", [], [0], (None,), (0,), (None, None), ((), ()),
    HourError("x"), Refused(3), nested(30), (0,) * 2000, ["early"], ([0], [1]), (True, False),
)


def odd_at_each_depth(value):
    """Copies of a nested tuple of integers, each with one item of it of another kind."""
    if isinstance(value, tuple):
        yield from (None, True, "", list(value), HourError("x"), 0, [nested(29)])
        for k, item in enumerate(value):
            for odd in odd_at_each_depth(item):
                yield value[:k] + (odd,) + value[k + 1:]
    else:
        yield from (None, True, False, str(value), [value], (value,), Refused(value), nested(28))


def tables_within(zone, first, last):
    """All tables of the zone with each of their jumps from first to last."""
    offsets, spacing = zone

    def jumps_from(start, ahead):
        yield ()
        for moment in range(start, last + 1):
            for offset in offsets:
                if offset != ahead:
                    for rest in jumps_from(moment + spacing, offset):
                        yield ((moment, offset),) + rest

    return [(offset, jumps) for offset in offsets for jumps in jumps_from(first, offset)]


def slow_offset(table, moment):
    """The offset of the last jump that is not behind the moment."""
    held = [offset for start, offset in table[1] if start <= moment]
    return held[-1] if held else table[0]


def slow_moments(zone, table, reading):
    """The moments with this reading, sought far and wide."""
    far = max(abs(offset) for offset in zone[0]) + 1
    span = range(reading - far, reading + far + 1)
    return [moment for moment in span if moment + slow_offset(table, moment) == reading]


def slow_gaps(table, reading):
    """The pairs of offsets ahead of and behind each jump in whose gap the reading is, as [4] says."""
    pairs = []
    ahead = table[0]
    for moment, behind in table[1]:
        if reading - ahead >= moment and reading - behind < moment:
            pairs.append((ahead, behind))
        ahead = behind
    return pairs


def slow_find(zone, table, reading, fold, gap):
    """The moment of the reading by the rules, None if it is refused."""
    moments = slow_moments(zone, table, reading)
    if len(moments) == 1:
        return moments[0]
    if len(moments) == 2:
        return {"early": moments[0], "late": moments[1], "refuse": None}[fold]
    ((ahead, behind),) = slow_gaps(table, reading)
    return {"ahead": reading - ahead, "behind": reading - behind, "refuse": None}[gap]


def slow_crowded(zone, looks):
    """All crowded stretches as pairs of indexes, as [5] says."""
    stretches = []
    for first in range(len(looks)):
        for last in range(first + 1, len(looks)):
            changes = sum(looks[k][1] != looks[k + 1][1] for k in range(first, last))
            if (changes - 1) * zone[1] > looks[last][0] - looks[first][0] - 1:
                stretches.append((first, last))
    return stretches


def slow_named(zone, looks):
    """The crowded stretch that crowded names."""
    stretches = slow_crowded(zone, looks)
    return min(stretches, key=lambda pair: (pair[1], -pair[0])) if stretches else None


def looks_within(zone, first, last):
    """All looks of the zone at moments from first to last."""
    if first > last:
        return [()]
    fewer = looks_within(zone, first, last - 1)
    return fewer + [looks + ((last, offset),) for looks in fewer for offset in zone[0]]


def has(table, looks):
    """Whether the table has the looks."""
    return all(slow_offset(table, moment) == offset for moment, offset in looks)


def parameters(function):
    """The names of the parameters by position, those by name only with their defaults."""
    listed = inspect.signature(function).parameters.values()
    plain = [one.name for one in listed if one.kind is one.POSITIONAL_OR_KEYWORD]
    named = {one.name: one.default for one in listed if one.kind is one.KEYWORD_ONLY}
    assert len(plain) + len(named) == len(listed)
    return plain, named
