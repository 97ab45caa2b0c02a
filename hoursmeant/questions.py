"""Questions about all runs of a program: wishes, differences and refusals.

The functions behind the interface's own ones check nothing: the other modules
call them with what has been checked.
"""

from hoursmeant.cases import each_case, early_world
from hoursmeant.checks import check_number, first_word, is_number
from hoursmeant.errors import InvalidValue, InvalidWish
from hoursmeant.programs import check_program, is_time, kinds_of_values
from hoursmeant.zones import check_zones

FARTHEST_NEAR = 1000000
# What stands behind the word of a wish, item by item.
WISH_ROLES = {
    "found": (), "same": ("time", "time"), "order": ("time", "time"), "near": ("time", "time", "most"),
}


def is_wish(zones, program, value):
    """Whether the value is a wish about the program."""
    check_zones(zones)
    check_program(zones, program)
    return fits_as_wish(program, value)


def keeps(zones, program, wish):
    """Whether each run of the program keeps the wish."""
    return breaking(zones, program, wish) is None


def breaking(zones, program, wish):
    """The early world of the first case that breaks the wish, None if none does."""
    check_zones(zones)
    check_program(zones, program)
    check_wish(program, wish)
    case = first_breaking(zones, program, wish)
    if case is None:
        return None
    return early_world(zones, program, case)


def differences(zones, program, first, second):
    """The ascending list of what the second value less the first one is in runs that are not refused."""
    check_zones(zones)
    check_program(zones, program)
    check_value(program, first)
    check_value(program, second)
    numbers = []
    for case in each_case(zones, program):
        _, values, refused = case
        if refused is None:
            numbers.append(values[second] - values[first])
    return sorted(set(numbers))


def witness(zones, program, first, second, difference):
    """The early world of the first case that is not refused and has this difference, or None."""
    check_zones(zones)
    check_program(zones, program)
    check_value(program, first)
    check_value(program, second)
    check_number(difference)
    for case in each_case(zones, program):
        _, values, refused = case
        if refused is None and values[second] - values[first] == difference:
            return early_world(zones, program, case)
    return None


def refusals(zones, program):
    """The ascending list of the indexes of the steps that are refused in some run."""
    check_zones(zones)
    check_program(zones, program)
    steps = []
    for case in each_case(zones, program):
        if case[2] is not None:
            steps.append(case[2])
    return sorted(set(steps))


def check_wish(program, value):
    """Raise InvalidWish unless the value is a wish about the program."""
    if not fits_as_wish(program, value):
        raise InvalidWish("not a wish about the program")


def check_value(program, value):
    """Raise InvalidValue unless the value is the index of a value of the program that is no span."""
    if not is_time(kinds_of_values(program), value):
        raise InvalidValue("not the index of a moment or a reading")


def fits_as_wish(program, value):
    """Whether the value is a wish about what is known to be a program."""
    roles = WISH_ROLES.get(first_word(value))
    if roles is None or len(value) != 1 + len(roles):
        return False
    known = kinds_of_values(program)
    return all([fits_wish_role(known, role, item) for role, item in zip(roles, value[1:])])


def fits_wish_role(known, role, value):
    """Whether the value can stand for the role in a wish about values of these kinds."""
    if role == "most":
        return is_number(value) and 0 <= value <= FARTHEST_NEAR
    return is_time(known, value)


def first_breaking(zones, program, wish):
    """The first case that breaks the wish, None if none does."""
    for case in each_case(zones, program):
        if breaks(case, wish):
            return case
    return None


def breaks(case, wish):
    """Whether the run of the case breaks the wish."""
    _, values, refused = case
    if wish[0] == "found":
        return refused is not None
    if refused is not None:
        return False
    return not _is_kept(wish, values[wish[1]], values[wish[2]])


def _is_kept(wish, one, other):
    if wish[0] == "same":
        return one == other
    if wish[0] == "order":
        return one <= other
    return abs(one - other) <= wish[3]
