"""What several tests share: odd values, and the definitions of DOC.md spelled out slowly.

Nothing in this file uses the functions that are tested, so that the tests compare two
ways to the same answer.
"""

import inspect
from itertools import product

from hoursmeant.errors import HourError, Refused


def nested(depth):
    """A tuple in a tuple in a tuple, and so on."""
    value = ()
    for _ in range(depth - 1):
        value = (value,)
    return value


# None of these is a zone, zones, a table, looks with a look, a rule, or an integer.
ODD_VALUES = (
    None, True, False, "", "0", "early\n", [], [0], (None,), (0,), (None, None), ((), ()),
    HourError("x"), Refused(3), nested(30), (0,) * 2000, ["early"], ([0], [1]), (True, False),
)


def odd_at_each_depth(value):
    """Copies of a nested tuple of integers, each with one item of it of another kind."""
    if isinstance(value, tuple):
        yield from (None, True, "", list(value), HourError("x"), 0, [nested(29)])
        for k, item in enumerate(value):
            for odd in odd_at_each_depth(item):
                yield value[:k] + (odd,) + value[k + 1:]
    else:
        yield from (None, True, False, str(value), [value], (value,), Refused(value), nested(28))


def is_odd_copy(odd, value):
    """Whether the copy is another value, 1 and True being two, for strings that str leaves alone."""
    return repr(odd) != repr(value)


def tables_within(zone, first, last):
    """All tables of the zone with each of their jumps from first to last."""
    offsets, spacing = zone

    def jumps_from(start, ahead):
        yield ()
        for moment in range(start, last + 1):
            for offset in offsets:
                if offset != ahead:
                    for rest in jumps_from(moment + spacing, offset):
                        yield ((moment, offset),) + rest

    return [(offset, jumps) for offset in offsets for jumps in jumps_from(first, offset)]


def slow_offset(table, moment):
    """The offset of the last jump that is not behind the moment."""
    held = [offset for start, offset in table[1] if start <= moment]
    return held[-1] if held else table[0]


def slow_moments(zone, table, reading):
    """The moments with this reading, sought far and wide."""
    far = max(abs(offset) for offset in zone[0]) + 1
    span = range(reading - far, reading + far + 1)
    return [moment for moment in span if moment + slow_offset(table, moment) == reading]


def slow_gaps(table, reading):
    """The pairs of offsets ahead of and behind each jump in whose gap the reading is, as [4] says."""
    pairs = []
    ahead = table[0]
    for moment, behind in table[1]:
        if reading - ahead >= moment and reading - behind < moment:
            pairs.append((ahead, behind))
        ahead = behind
    return pairs


def slow_find(zone, table, reading, fold, gap):
    """The moment of the reading by the rules, None if it is refused."""
    moments = slow_moments(zone, table, reading)
    if len(moments) == 1:
        return moments[0]
    if len(moments) == 2:
        return {"early": moments[0], "late": moments[1], "refuse": None}[fold]
    ((ahead, behind),) = slow_gaps(table, reading)
    return {"ahead": reading - ahead, "behind": reading - behind, "refuse": None}[gap]


def slow_crowded(zone, looks):
    """All crowded stretches as pairs of indexes, as [5] says."""
    stretches = []
    for first in range(len(looks)):
        for last in range(first + 1, len(looks)):
            changes = sum(looks[k][1] != looks[k + 1][1] for k in range(first, last))
            if (changes - 1) * zone[1] > looks[last][0] - looks[first][0] - 1:
                stretches.append((first, last))
    return stretches


def slow_named(zone, looks):
    """The crowded stretch that crowded names."""
    stretches = slow_crowded(zone, looks)
    return min(stretches, key=lambda pair: (pair[1], -pair[0])) if stretches else None


def looks_within(zone, first, last):
    """All looks of the zone at moments from first to last."""
    if first > last:
        return [()]
    fewer = looks_within(zone, first, last - 1)
    return fewer + [looks + ((last, offset),) for looks in fewer for offset in zone[0]]


def has(table, looks):
    """Whether the table has the looks."""
    return all(slow_offset(table, moment) == offset for moment, offset in looks)


def slow_early(zone, looks):
    """The early table of looks that can be, as [5] says."""
    if not looks:
        return min(zone[0]), ()
    jumps = []
    for (moment, offset), (_, later) in zip(looks, looks[1:]):
        if offset != later:
            jumps.append((max([moment + 1] + [jump + zone[1] for jump, _ in jumps[-1:]]), later))
    return looks[0][1], tuple(jumps)


def slow_suits(one, other, moment):
    """Whether two tables have like offsets at each moment ahead of this one."""
    first = min([moment] + [jump for jump, _ in one[1] + other[1]]) - 1
    return all(slow_offset(one, at) == slow_offset(other, at) for at in range(first, moment))


def slow_kinds(program):
    """The kinds of the values of a program, as [6] says."""
    made = {"read": "reading", "find": "moment", "offset": "span", "edition": "moment", "plus": "reading"}
    known = ["moment"]
    for word, v, *_ in program:
        known.append(known[v] if word == "add" else made.get(word, "moment"))
    return known


def slow_run(zones, program, world, start):
    """The case (looked, values, refused) of a run, None if the world does not suit it."""
    values, looked, edited = [start], [], {}

    def table(place):
        return world[place in edited][place]

    def look(place, moment):
        edition = int(place in edited and moment >= edited[place])
        mark = (place, edition, moment - start, slow_offset(table(place), moment))
        if mark not in looked:
            looked.append(mark)
        return mark[3]

    def told(refused):
        kinds = slow_kinds(program)
        less = [value - start * (kind != "span") for value, kind in zip(values, kinds)]
        return tuple(looked), tuple(less), refused

    for k, (word, v, *rest) in enumerate(program):
        value = values[v]
        if word == "read":
            value += look(rest[0], value)
        elif word == "offset":
            value = look(rest[0], value)
        elif word == "find":
            place, fold, gap = rest
            for offset in sorted(zones[place][0], reverse=True):
                look(place, value - offset)
            value = slow_find(zones[place], table(place), value, fold, gap)
            if value is None:
                return told(k)
        elif word == "edition":
            look(rest[0], value - 1)
            if not slow_suits(world[0][rest[0]], world[1][rest[0]], value):
                return None
            edited[rest[0]] = value
        else:
            other = rest[0] if word == "add" else values[rest[0]]
            value += -other if word == "less" else other
        values.append(value)
    return told(None)


def slow_bounds(zones, program):
    """For each place a least and a greatest moment, less the start, between which all is looked at."""
    values, seen = [(0, 0)], [[] for _ in zones]
    for word, v, *rest in program:
        low, high = values[v]
        if word == "add":
            values.append((low + rest[0], high + rest[0]))
        elif word in ("plus", "less"):
            bounds = values[rest[0]] if word == "plus" else [-end for end in values[rest[0]][::-1]]
            values.append((low + bounds[0], high + bounds[1]))
        else:
            least, greatest = min(zones[rest[0]][0]), max(zones[rest[0]][0])
            after = {
                "read": (low + least, high + greatest), "find": (low - greatest, high - least),
                "offset": (least, greatest), "edition": (low, high),
            }[word]
            values.append(after)
            seen[rest[0]] += {"find": list(after), "edition": [low - 1, high - 1]}.get(word, [low, high])
    return [(min(moments, default=0), max(moments, default=0)) for moments in seen]


def slow_worlds(zones, program):
    """All worlds that differ in what a run from 0 can look at; without an edition later says nothing."""
    edited = {step[2] for step in program if step[0] == "edition"}
    choices = []
    for place, (zone, (first, last)) in enumerate(zip(zones, slow_bounds(zones, program))):
        tables = tables_within(zone, first + 1, last)
        choices.append([(one, two) for one in tables for two in (tables if place in edited else [one])])
    for pairs in product(*choices):
        yield tuple(one for one, _ in pairs), tuple(two for _, two in pairs)


def slow_cases(zones, program):
    """The cases that runs from 0 come to in all these worlds, by ascending offsets."""
    bounds = slow_bounds(zones, program)
    found = {slow_run(zones, program, world, 0) for world in slow_worlds(zones, program)} - {None}
    for looked, _, _ in found:
        assert all(bounds[place][0] <= moment <= bounds[place][1] for place, _, moment, _ in looked)
    # What stands ahead of the first difference is the same, so that is one of two offsets.
    return sorted(found, key=lambda case: case[0])


def slow_early_world(zones, program, case):
    """The early world of a case, as [8] says."""
    looked, values, _ = case
    tables, later = [], []
    for place, zone in enumerate(zones):
        first = sorted(look[2:] for look in looked if look[:2] == (place, 0))
        tables.append(slow_early(zone, first))
        come = [k for k, step in enumerate(program[:len(values) - 1]) if step[::2] == ("edition", place)]
        if come:
            ahead = [look for look in first if look[0] < values[come[0] + 1]]
            first = sorted(ahead + [look[2:] for look in looked if look[:2] == (place, 1)])
        later.append(slow_early(zone, first))
    return tuple(tables), tuple(later)


def slow_breaks(case, wish):
    """Whether the case breaks the wish, as [9] says."""
    word, *rest = wish
    if case[2] is not None or word == "found":
        return word == "found" and case[2] is not None
    one, other = (case[1][k] for k in rest[:2])
    return {"same": one != other, "order": one > other, "near": abs(one - other) > (rest + [0, 0])[2]}[word]


def times_of(program):
    """The indexes of the values that are no spans."""
    return [k for k, kind in enumerate(slow_kinds(program)) if kind != "span"]


def spread_tables(zones, bounds):
    """All worlds without editions whose tables jump between the bounds of their place."""
    choices = [tables_within(zone, first + 1, last) for zone, (first, last) in zip(zones, bounds)]
    return [(tables, tables) for tables in product(*choices)]


def slow_pairs(zones, one, other):
    """What runs of both programs from 0 in the same world come to, in the sequence of [15].

    For each it tells what both look at, one behind the other, and how each one ends: with the
    last value less the start, or None if it is refused.
    """
    bounds = [
        (min(ends[0] for ends in pair), max(ends[1] for ends in pair))
        for pair in zip(slow_bounds(zones, one), slow_bounds(zones, other))
    ]
    found = set()
    for world in spread_tables(zones, bounds):
        looks, values, refused = slow_run(zones, one, world, 0)
        other_looks, other_values, other_refused = slow_run(zones, other, world, 0)
        looked = looks + tuple(look for look in other_looks if look not in looks)
        ends = tuple(
            values[-1] if refused is None else None
            for values, refused in ((values, refused), (other_values, other_refused))
        )
        found.add((looked, *ends))
    # What both look at decides how they end, so no two have the same looks.
    return sorted(found, key=lambda pair: pair[0])


def moved(world, by):
    """The world with each jump later by so many minutes."""
    return tuple(
        tuple((offset, tuple((moment + by, later) for moment, later in jumps)) for offset, jumps in tables)
        for tables in world
    )


def next_steps(zones, known, minutes, rules):
    """All steps behind values of these kinds, with these minutes and pairs of rules."""
    for v, kind in enumerate(known):
        for place in range(len(zones)):
            if kind == "moment":
                yield from ((word, v, place) for word in ("read", "offset", "edition"))
            if kind == "reading":
                yield from (("find", v, place, fold, gap) for fold, gap in rules)
        if kind != "span":
            yield from (("add", v, number) for number in minutes)
            spans = [s for s, other in enumerate(known) if other == "span"]
            yield from (("plus" if kind == "moment" else "less", v, s) for s in spans)


def programs_of(zones, length, minutes, rules):
    """All programs of so many steps with these minutes and pairs of rules, at most four conversions."""
    if length == 0:
        return [()]
    longer = []
    for program in programs_of(zones, length - 1, minutes, rules):
        for step in next_steps(zones, slow_kinds(program), minutes, rules):
            words = [one[0] for one in program + (step,)]
            conversions = [word for word in words if word in ("read", "find", "offset", "edition")]
            if words.count("edition") <= 1 and len(conversions) <= 4:
                longer.append(program + (step,))
    return longer


def parameters(function):
    """The names of the parameters by position, those by name only with their defaults."""
    listed = inspect.signature(function).parameters.values()
    plain = [one.name for one in listed if one.kind is one.POSITIONAL_OR_KEYWORD]
    named = {one.name: one.default for one in listed if one.kind is one.KEYWORD_ONLY}
    assert len(plain) + len(named) == len(listed)
    return plain, named
