"""The cases of a program: what its runs look at, and what comes of it.

The functions behind the interface's own ones check nothing: the other modules
call them with what has been checked.
"""

from hoursmeant.programs import check_program, edition_moment, looked_at, made_value
from hoursmeant.spacing import earliest_table, fitting_offsets
from hoursmeant.zones import check_place, check_zones


def cases(zones, program):
    """The list of all cases that can be, by ascending offsets where they first differ."""
    check_zones(zones)
    check_program(zones, program)
    return list(each_case(zones, program))


def worlds(zones, program):
    """Yield the early worlds of the cases, in their sequence."""
    check_zones(zones)
    check_program(zones, program)
    for case in each_case(zones, program):
        yield early_world(zones, program, case)


def looks_of(zones, program, place):
    """The ascending list of the moments, less the start, that some case looks at at this place."""
    check_zones(zones)
    check_program(zones, program)
    check_place(zones, place)
    moments = []
    for case in each_case(zones, program):
        moments.extend([look[2] for look in case[0] if look[0] == place])
    return sorted(set(moments))


def each_case(zones, program):
    """Yield all cases of the program that can be, in their sequence."""
    yield from cases_from(zones, program, (), (0,))


def cases_from(zones, program, looked, values):
    """Yield, in their sequence, the cases that can be and begin with these looks and values."""
    index = len(values) - 1
    if index == len(program):
        yield looked, values, None
        return
    for further, looks in _ways_on(zones, program, looked, values):
        value = made_value(program[index], values, looks)
        if value is None:
            yield further, values, index
        else:
            longer = values + (value,)
            yield from cases_from(zones, program, further, longer)


def early_world(zones, program, case):
    """The early world of the case."""
    looked, values, _ = case
    tables = []
    later = []
    for place, zone in enumerate(zones):
        tables.append(earliest_table(zone, _first_looks(looked, place)))
        later_from = edition_moment(program, values, place)
        if later_from is None:
            later.append(tables[place])
        else:
            later.append(earliest_table(zone, _later_looks(looked, place, later_from)))
    return tuple(tables), tuple(later)


def _ways_on(zones, program, looked, values):
    # A way is what is looked at with the next step, and the looks of this step alone. The
    # ways stay in the sequence of the cases, as each is replaced by its ways on in turn.
    ways = [(looked, [])]
    for spot in looked_at(zones, program, values):
        later_from = edition_moment(program, values, spot[0])
        longer = []
        for told, looks in ways:
            for further, offset in _ways_to_look(zones, told, spot, later_from):
                longer.append((further, looks + [(spot[2], offset)]))
        ways = longer
    return ways


def _ways_to_look(zones, looked, spot, later_from):
    for look in looked:
        if look[:3] == spot:
            return [(looked, look[3])]
    ways = []
    for offset in _offsets_to_try(zones[spot[0]], looked, spot, later_from):
        ways.append((looked + (spot + (offset,),), offset))
    return ways


def _offsets_to_try(zone, looked, spot, later_from):
    # Ahead of an edition that the run has come to both tables of the place have the look.
    place, edition, moment = spot
    left = list(zone[0])
    if edition == 0:
        left = fitting_offsets(zone, _first_looks(looked, place), moment)
    if later_from is not None:
        later_looks = _later_looks(looked, place, later_from)
        left = [offset for offset in fitting_offsets(zone, later_looks, moment) if offset in left]
    return left


def _first_looks(looked, place):
    return tuple(sorted([look[2:] for look in looked if look[0] == place and look[1] == 0]))


def _later_looks(looked, place, later_from):
    # What stands in the first table from the edition on says nothing of the later one.
    looks = []
    for told_place, edition, moment, offset in looked:
        if told_place == place and (edition == 1 or moment < later_from):
            looks.append((moment, offset))
    return tuple(sorted(looks))
