"""What would mend a program: other rules, a greater spacing, another program.

The functions behind the interface's own ones check nothing: they are called with
what has been checked.
"""

from hoursmeant.cases import cases_from, each_case, early_world
from hoursmeant.errors import InvalidProgram
from hoursmeant.programs import check_program, kinds_of_values
from hoursmeant.questions import check_wish, first_breaking
from hoursmeant.zones import FOLD_RULES, GAP_RULES, MOST_SPACING, check_place, check_zones


def rules_that_keep(zones, program, wish):
    """The ascending list of the rules of all finds with which the program always keeps the wish."""
    check_zones(zones)
    check_program(zones, program)
    check_wish(program, wish)
    kept = []
    for rules in _all_rules(program):
        if first_breaking(zones, _with_rules(program, rules), wish) is None:
            kept.append(rules)
    return kept


def least_spacing(zones, program, wish, place):
    """The least spacing at the place with which the wish is always kept, None if there is none."""
    check_zones(zones)
    check_program(zones, program)
    check_wish(program, wish)
    check_place(zones, place)
    offsets = zones[place][0]
    low = offsets[-1] - offsets[0] + 1
    high = MOST_SPACING
    if not _keeps_with_spacing(zones, program, wish, place, high):
        return None
    # What is kept with a spacing is kept with a greater one, so halving finds the least.
    while low < high:
        middle = (low + high) // 2
        if _keeps_with_spacing(zones, program, wish, place, middle):
            high = middle
        else:
            low = middle + 1
    return low


def alike(zones, one, other):
    """Whether both programs are refused or end with equal values, from each start in each world."""
    return parting(zones, one, other) is None


def parting(zones, one, other):
    """The early world of the first case of both in which they do not end alike, or None."""
    check_zones(zones)
    check_program(zones, one)
    _check_other(zones, one, other)
    for looked, values, refused in each_case(zones, one):
        # The runs share their start and their world, so other goes on with the looks of one.
        for case in cases_from(zones, other, looked, (0,)):
            if not _end_alike(values, refused, case):
                return early_world(zones, other, case)
    return None


def _check_other(zones, one, value):
    check_program(zones, value)
    if kinds_of_values(value)[-1] != kinds_of_values(one)[-1]:
        raise InvalidProgram("the last values are of unlike kinds")


def _end_alike(values, refused, case):
    _, other_values, other_refused = case
    if refused is None and other_refused is None:
        return values[-1] == other_values[-1]
    return refused is not None and other_refused is not None


def _all_rules(program):
    pairs = [(fold, gap) for fold in FOLD_RULES for gap in GAP_RULES]
    rows = [()]
    for step in program:
        if step[0] == "find":
            rows = [row + (pair,) for row in rows for pair in pairs]
    return rows


def _with_rules(program, rules):
    steps = []
    finds = 0
    for step in program:
        if step[0] == "find":
            steps.append(step[:3] + rules[finds])
            finds += 1
        else:
            steps.append(step)
    return tuple(steps)


def _keeps_with_spacing(zones, program, wish, place, spacing):
    spaced = zones[:place] + ((zones[place][0], spacing),) + zones[place + 1:]
    return first_breaking(spaced, program, wish) is None
