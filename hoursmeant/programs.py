"""Programs of steps, the kinds of their values, and their runs in worlds.

The functions behind the interface's own ones check nothing: the other modules
call them with what has been checked.
"""

from hoursmeant.checks import check_number, first_word, is_number, is_pair
from hoursmeant.errors import InvalidProgram, InvalidWorld, Refused, Unsuited
from hoursmeant.zones import (
    FOLD_RULES, GAP_RULES, check_zones, fits_as_table, found_moment, held_offset, is_place, is_rule,
    moments_to_look_at,
)

MOST_STEPS = 8
FARTHEST_MINUTES = 100000
# What stands behind the word of a step, item by item: "moment", "reading" and "span" ask for
# the index of a value of this kind, "time" for that of a moment or a reading.
STEP_ROLES = {
    "read": ("moment", "place"),
    "find": ("reading", "place", "fold", "gap"),
    "offset": ("moment", "place"),
    "edition": ("moment", "place"),
    "plus": ("moment", "span"),
    "less": ("reading", "span"),
    "add": ("time", "minutes"),
}
KINDS = ("moment", "reading", "span")
# The kinds of what the steps make, but for "add", which keeps the kind of its value.
MADE_KINDS = {
    "read": "reading", "find": "moment", "offset": "span", "edition": "moment", "plus": "reading",
    "less": "moment",
}


def is_program(zones, value):
    """Whether the value is a program of the zones."""
    check_zones(zones)
    return fits_as_program(zones, value)


def is_world(zones, value):
    """Whether the value is a world of the zones."""
    check_zones(zones)
    return fits_as_world(zones, value)


def kinds(zones, program):
    """The list of the kinds of the values: "moment", "reading" or "span"."""
    check_zones(zones)
    check_program(zones, program)
    return kinds_of_values(program)


def run(zones, program, world, start=0):
    """The list of the values that the program makes from the start in the world."""
    check_zones(zones)
    check_program(zones, program)
    check_world(zones, world)
    check_number(start)
    values = [start]
    for index, step in enumerate(program):
        if step[0] == "edition" and not _suits(world, step[2], values[step[1]]):
            raise Unsuited("the tables of the place are unlike ahead of the edition")
        value = made_value(step, values, _looks_in(world, looked_at(zones, program, values)))
        if value is None:
            raise Refused(index)
        values.append(value)
    return values


def check_program(zones, value):
    """Raise InvalidProgram unless the value is a program of the zones."""
    if not fits_as_program(zones, value):
        raise InvalidProgram("not a program of the zones")


def check_world(zones, value):
    """Raise InvalidWorld unless the value is a world of the zones."""
    if not fits_as_world(zones, value):
        raise InvalidWorld("not a world of the zones")


def fits_as_program(zones, value):
    """Whether the value is a program of what is known to be zones."""
    if not isinstance(value, tuple) or len(value) > MOST_STEPS:
        return False
    known = ["moment"]
    for step in value:
        if not _is_step(zones, known, step):
            return False
        known.append(_made_kind(known, step))
    return [step[0] for step in value].count("edition") <= 1


def fits_as_world(zones, value):
    """Whether the value is a world of what is known to be zones."""
    return is_pair(value) and all([_are_tables(zones, item) for item in value])


def kinds_of_values(program):
    """The list of the kinds of the values of what is known to be a program."""
    known = ["moment"]
    for step in program:
        known.append(_made_kind(known, step))
    return known


def fits_step_role(zones, known, role, value):
    """Whether the value can stand for the role in a step behind values of these kinds."""
    if role == "place":
        return is_place(zones, value)
    if role == "fold":
        return is_rule(value, FOLD_RULES)
    if role == "gap":
        return is_rule(value, GAP_RULES)
    if role == "minutes":
        return is_number(value) and -FARTHEST_MINUTES <= value <= FARTHEST_MINUTES
    if role == "time":
        return is_time(known, value)
    return _is_index(known, value) and known[value] == role


def is_time(known, value):
    """Whether the value is an index into the kinds, and that of a moment or a reading."""
    return _is_index(known, value) and known[value] != "span"


def looked_at(zones, program, values):
    """What the step behind these values looks at: a list of tuples (place, edition, moment)."""
    step = program[len(values) - 1]
    if "place" not in STEP_ROLES[step[0]]:
        return []
    place = step[2]
    later_from = edition_moment(program, values, place)
    spots = []
    for moment in _moments_of_step(zones, step, values):
        is_later = later_from is not None and moment >= later_from
        spots.append((place, 1 if is_later else 0, moment))
    return spots


def edition_moment(program, values, place):
    """The moment of the edition of the place, None if the run with these values came to none."""
    for step, value in zip(program, values[1:]):
        if step[0] == "edition" and step[2] == place:
            return value
    return None


def made_value(step, values, looks):
    """The value that the step makes by its looks, None if it is refused."""
    word = step[0]
    value = values[step[1]]
    if word == "read":
        return value + looks[0][1]
    if word == "offset":
        return looks[0][1]
    if word == "edition":
        return value
    if word == "find":
        return found_moment(value, looks, step[3], step[4])
    if word == "plus":
        return value + values[step[2]]
    if word == "less":
        return value - values[step[2]]
    return value + step[2]


def _is_step(zones, known, value):
    roles = STEP_ROLES.get(first_word(value))
    if roles is None or len(value) != 1 + len(roles):
        return False
    return all([fits_step_role(zones, known, role, item) for role, item in zip(roles, value[1:])])


def _is_index(known, value):
    return is_number(value) and 0 <= value < len(known)


def _made_kind(known, step):
    if step[0] == "add":
        return known[step[1]]
    return MADE_KINDS[step[0]]


def _are_tables(zones, value):
    if not isinstance(value, tuple) or len(value) != len(zones):
        return False
    return all([fits_as_table(zone, table) for zone, table in zip(zones, value)])


def _moments_of_step(zones, step, values):
    value = values[step[1]]
    if step[0] == "find":
        return moments_to_look_at(zones[step[2]], value)
    if step[0] == "edition":
        return [value - 1]
    return [value]


def _looks_in(world, spots):
    return [(moment, held_offset(world[edition][place], moment)) for place, edition, moment in spots]


def _suits(world, place, moment):
    # Each jump goes to another offset, so two tables are alike ahead of a moment only with
    # the same jumps there.
    tables, later = world
    return _ahead_of(tables[place], moment) == _ahead_of(later[place], moment)


def _ahead_of(table, moment):
    offset, jumps = table
    return offset, [jump for jump in jumps if jump[0] < moment]
