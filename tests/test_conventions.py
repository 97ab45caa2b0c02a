"""[2] for all functions: names of arguments, errors and their order, new lists.

What it asks of the methods of Sightings and Console is in their own tests.
"""

import copy
import unittest

from hoursmeant.cases import cases, looks_of, worlds
from hoursmeant.console import Console
from hoursmeant.errors import (
    InvalidLooks, InvalidNumber, InvalidPlace, InvalidProgram, InvalidRule, InvalidTable, InvalidValue,
    InvalidWish, InvalidWords, InvalidWorld, InvalidZone, InvalidZones, Refused, Unsuited,
)
from hoursmeant.mending import alike, least_spacing, parting, rules_that_keep
from hoursmeant.programs import is_program, is_world, kinds, run
from hoursmeant.questions import breaking, differences, is_wish, keeps, refusals, witness
from hoursmeant.sightings import Sightings, SureSightings
from hoursmeant.spacing import can_hold, crowded, early_table, is_looks, offsets_left
from hoursmeant.words import read_program, read_wish, write_program, write_wish
from hoursmeant.zones import (
    find_moment, is_table, is_zone, is_zones, moments_of, offset_at, reading_at,
)
from tests.helpers import ODD_VALUES, is_odd_copy, nested, odd_at_each_depth, parameters

ZONE = ((0, 60), 100)
TABLE = (60, ((600, 0),))
LOOKS = ((0, 0), (50, 60), (101, 0))
ZONES = (ZONE, ((-30, 30), 200))
PROGRAM = (("read", 0, 0), ("find", 1, 0, "early", "refuse"), ("offset", 2, 1), ("edition", 2, 1))
WORLD = ((TABLE, (30, ())), (TABLE, (30, ((700, -30),))))
WISH = ("near", 0, 2, 59)
# Two programs without editions whose last values are moments.
ENDED = (("read", 0, 0), ("find", 1, 1, "late", "behind"))
OTHER = (("offset", 0, 1), ("plus", 0, 1), ("add", 0, 30))

# Right arguments in the order of the signature, and the error for each parameter that has one.
CALLS = (
    (is_table, {"zone": ZONE, "value": TABLE}),
    (offset_at, {"zone": ZONE, "table": TABLE, "moment": 630}),
    (reading_at, {"zone": ZONE, "table": TABLE, "moment": 630}),
    (moments_of, {"zone": ZONE, "table": TABLE, "reading": 630}),
    (find_moment, {"zone": ZONE, "table": TABLE, "reading": 630, "fold": "late", "gap": "behind"}),
    (is_looks, {"zone": ZONE, "value": LOOKS}),
    (can_hold, {"zone": ZONE, "looks": LOOKS}),
    (crowded, {"zone": ZONE, "looks": LOOKS}),
    (early_table, {"zone": ZONE, "looks": LOOKS}),
    (offsets_left, {"zone": ZONE, "looks": LOOKS, "moment": 201}),
    (is_program, {"zones": ZONES, "value": PROGRAM}),
    (is_world, {"zones": ZONES, "value": WORLD}),
    (kinds, {"zones": ZONES, "program": PROGRAM}),
    (run, {"zones": ZONES, "program": PROGRAM, "world": WORLD, "start": 630}),
    (cases, {"zones": ZONES, "program": PROGRAM}),
    (worlds, {"zones": ZONES, "program": PROGRAM}),
    (looks_of, {"zones": ZONES, "program": PROGRAM, "place": 1}),
    (is_wish, {"zones": ZONES, "program": PROGRAM, "value": WISH}),
    (keeps, {"zones": ZONES, "program": PROGRAM, "wish": WISH}),
    (breaking, {"zones": ZONES, "program": PROGRAM, "wish": WISH}),
    (differences, {"zones": ZONES, "program": PROGRAM, "first": 0, "second": 2}),
    (witness, {"zones": ZONES, "program": PROGRAM, "first": 0, "second": 2, "difference": -60}),
    (refusals, {"zones": ZONES, "program": PROGRAM}),
    (rules_that_keep, {"zones": ZONES, "program": PROGRAM, "wish": WISH}),
    (least_spacing, {"zones": ZONES, "program": PROGRAM, "wish": WISH, "place": 1}),
    (alike, {"zones": ZONES, "one": ENDED, "other": OTHER}),
    (parting, {"zones": ZONES, "one": ENDED, "other": OTHER}),
    (write_program, {"zones": ZONES, "program": PROGRAM}),
    (read_program, {"zones": ZONES, "words": "read 0 0 then edition 0 1"}),
    (write_wish, {"zones": ZONES, "program": PROGRAM, "wish": WISH}),
    (read_wish, {"zones": ZONES, "program": PROGRAM, "words": "near 0 2 59"}),
)
BY_NAME_ONLY = ("fold", "gap")
ERRORS = {
    "zone": InvalidZone, "table": InvalidTable, "moment": InvalidNumber, "reading": InvalidNumber,
    "fold": InvalidRule, "gap": InvalidRule, "looks": InvalidLooks, "zones": InvalidZones,
    "place": InvalidPlace, "program": InvalidProgram, "world": InvalidWorld, "start": InvalidNumber,
    "first": InvalidValue, "second": InvalidValue, "difference": InvalidNumber, "wish": InvalidWish,
    "one": InvalidProgram, "other": InvalidProgram, "words": InvalidWords,
}
WRONG = {
    "zone": [*ODD_VALUES, (), 0, ((0, 60), 60), ((60, 0), 100), [(0, 60), 100], ((0, 1, 2, 3), 9), (ZONE,)],
    "table": [*ODD_VALUES, (), 0, (30, ()), (0, ((600, 0),)), [60, ()], (0, ((0, 60), (99, 0)))],
    "looks": [*ODD_VALUES, 0, ((0, 30),), ((0, 0), (0, 0)), ((1, 0), (0, 0)), [(0, 0)], LOOKS[::-1]],
    "moment": [*ODD_VALUES, (), "600", (600,), [600]],
    "fold": [*ODD_VALUES, (), 0, "ahead", "behind", "Early", "early ", "earlylate", ("early",), 10 ** 30],
    "gap": [*ODD_VALUES, (), 0, "early", "late", "Ahead", " behind", "refuse\n", ("refuse",), -10 ** 30],
    "zones": [*ODD_VALUES, (), 0, ZONE, [ZONE], (ZONE, ZONE, ZONE), (ZONE, ((60, 0), 100)), (ZONE, None)],
    "place": [*ODD_VALUES, (), 2, -1, 10 ** 30, (0,), ZONE],
    "program": [*ODD_VALUES, 0, list(PROGRAM), PROGRAM[1:], PROGRAM[::-1], PROGRAM + PROGRAM[3:], PROGRAM * 2000],
    "world": [*ODD_VALUES, (), 0, WORLD[:1], WORLD * 2, WORLD[0], (WORLD[0], (TABLE,)), (WORLD[0], (TABLE, TABLE))],
    "first": [*ODD_VALUES, (), 3, 5, -1, 10 ** 30, (0,), PROGRAM],
    # Other values than strings are not asked for here.
    "words": ["", " ", "-0", "then", "read", "same", "near 0 2", "read 0 0 ", "x" * 4000, "find 0 0 early ahead"],
    "wish": [*ODD_VALUES, (), 0, "found", ("same", 0, 3), ("order", 5, 0), ("near", 0, 2, 1000001), WISH[:3]],
}
WRONG["reading"] = WRONG["start"] = WRONG["difference"] = WRONG["moment"]
WRONG["second"] = WRONG["first"]
WRONG["one"] = list(WRONG["program"])
WRONG["other"] = [*WRONG["program"], ENDED[:1], OTHER[:1]]
WRONG["table"] += odd_at_each_depth((60, ((600, 0),)))
WRONG["looks"] += odd_at_each_depth(((0, 0), (50, 60)))
WRONG["zone"] += odd_at_each_depth(ZONE)
WRONG["zones"] += odd_at_each_depth(ZONES)
WRONG["program"] += [odd for odd in odd_at_each_depth(PROGRAM) if is_odd_copy(odd, PROGRAM)]
WRONG["world"] += odd_at_each_depth(WORLD)
WRONG["wish"] += [odd for odd in odd_at_each_depth(WISH) if is_odd_copy(odd, WISH)]


def call(function, arguments):
    """The function with these arguments, by position as far as that is possible."""
    plain = [item for name, item in arguments.items() if name not in BY_NAME_ONLY]
    named = {name: item for name, item in arguments.items() if name in BY_NAME_ONLY}
    return whole(function(*plain, **named))


def whole(result):
    """What a function returned; all of it as a list if it is iterated over."""
    return list(result) if hasattr(result, "__next__") else result


class TestArguments(unittest.TestCase):
    def test_names_and_order(self):
        for function in (is_zone, is_zones):
            self.assertEqual(parameters(function), (["value"], {}))
        for function, arguments in CALLS:
            plain, named = parameters(function)
            self.assertEqual(plain + list(named), list(arguments))
            self.assertEqual(list(named), [name for name in arguments if name in BY_NAME_ONLY])
        self.assertEqual(parameters(find_moment)[1], {"fold": "early", "gap": "ahead"})
        self.assertEqual(run.__defaults__, (0,))
        for function, _ in CALLS:
            if function is not run:
                self.assertIsNone(function.__defaults__)

    def test_by_position_and_by_name(self):
        self.assertIs(is_zone(value=ZONE), True)
        self.assertIs(is_zones(value=(ZONE,)), True)
        for function, arguments in CALLS:
            self.assertEqual(whole(function(**arguments)), call(function, arguments))
            backwards = dict(reversed(arguments.items()))
            self.assertEqual(whole(function(**backwards)), call(function, arguments))

    def test_rules_by_name_only(self):
        for rules in (("early",), ("early", "ahead")):
            self.assertRaises(TypeError, find_moment, ZONE, TABLE, 630, *rules)


class TestErrors(unittest.TestCase):
    def test_each_wrong_argument(self):
        for function, arguments in CALLS:
            for name in arguments:
                if name == "value":
                    continue
                for wrong in WRONG[name]:
                    with self.subTest(function=function.__name__, name=name, wrong=wrong):
                        with self.assertRaises(ERRORS[name]) as caught:
                            call(function, {**arguments, name: wrong})
                        self.assertIs(type(caught.exception), ERRORS[name])

    def test_two_and_more_wrong_arguments(self):
        for function, arguments in CALLS:
            names = [name for name in arguments if name != "value"]
            for k, first in enumerate(names):
                for others in [[other] for other in names[k + 1:]] + [names[k + 1:]]:
                    for at in range(6):
                        wrong = {name: WRONG[name][at] for name in [first, *others]}
                        with self.subTest(function=function.__name__, wrong=wrong):
                            self.assertRaises(ERRORS[first], call, function, {**arguments, **wrong})

    def test_what_is_right_for_another_zone(self):
        other = ((-60, 0), 100)
        for function, arguments in CALLS:
            if "zone" not in arguments:
                continue
            wrong = {**arguments, "zone": other}
            with self.subTest(function=function.__name__):
                if "value" in arguments:
                    self.assertIs(function(**wrong), False)
                else:
                    self.assertRaises((InvalidTable, InvalidLooks), function, **wrong)

    def test_any_value_is_told(self):
        for value in (*ODD_VALUES, 0, 10 ** 30, -10 ** 30, "x" * 4000, [nested(29)] * 2000):
            self.assertIs(is_zone(value), False)
            self.assertIs(is_zones(value), False)
            self.assertIs(is_table(ZONE, value), False)
            self.assertIs(is_looks(ZONE, value), False)
            self.assertIs(is_program(ZONES, value), False)
            self.assertIs(is_world(ZONES, value), False)
            self.assertIs(is_wish(ZONES, PROGRAM, value), False)

    def test_objects_of_this_package_as_any_value(self):
        objects = [Sightings(ZONE), SureSightings(ZONE), Console(ZONES), Sightings, Refused(1)]
        for one in [*objects, *[(one,) for one in objects], *[(one, one) for one in objects], *[[one] for one in objects]]:
            for function, arguments in CALLS:
                for name in arguments:
                    if name == "value":
                        self.assertIs(function(**{**arguments, name: one}), False)
                    elif name != "words":
                        self.assertRaises(ERRORS[name], call, function, {**arguments, name: one})

    def test_wrong_zone_with_any_value(self):
        for function in (is_table, is_looks):
            for value in ODD_VALUES:
                self.assertRaises(InvalidZone, function, None, value)
        for function in (is_program, is_world):
            for value in ODD_VALUES:
                self.assertRaises(InvalidZones, function, None, value)

    def test_what_is_right_for_other_zones(self):
        one_place = (ZONE,)
        self.assertIs(is_program(one_place, PROGRAM), False)
        self.assertIs(is_world(one_place, WORLD), False)
        for function, arguments in CALLS:
            if "program" in arguments or "one" in arguments:
                self.assertRaises(InvalidProgram, call, function, {**arguments, "zones": one_place})
        self.assertRaises(InvalidWorld, run, one_place, (), WORLD)
        self.assertRaises(InvalidWorld, run, ZONES[::-1], (), WORLD)
        self.assertRaises(InvalidPlace, looks_of, one_place, (), 1)
        self.assertRaises(InvalidPlace, least_spacing, one_place, (), ("found",), 1)
        self.assertRaises(InvalidWords, read_program, one_place, "edition 0 1")

    def test_what_is_right_for_another_program(self):
        self.assertIs(is_wish(ZONES, PROGRAM[:1], WISH), False)
        for function in (keeps, breaking, rules_that_keep, write_wish):
            self.assertRaises(InvalidWish, function, ZONES, PROGRAM[:1], WISH)
        self.assertRaises(InvalidWish, least_spacing, ZONES, PROGRAM[:1], WISH, 5)
        self.assertRaises(InvalidWords, read_wish, ZONES, PROGRAM[:1], "near 0 2 59")
        self.assertRaises(InvalidProgram, alike, ZONES, ENDED, ENDED[:1])
        self.assertRaises(InvalidProgram, parting, ZONES, ENDED[:1], ENDED)
        self.assertRaises(InvalidValue, differences, ZONES, PROGRAM[:1], 0, 2)
        self.assertRaises(InvalidValue, witness, ZONES, PROGRAM[:1], 2, 0, None)

    def test_parameters_ahead_of_what_the_run_comes_to(self):
        refused = (("read", 0, 0), ("find", 1, 0, "refuse", "ahead"))
        unsuited = (WORLD[0], (TABLE, (-30, ())))
        self.assertRaises(Refused, run, ZONES, refused, WORLD, 630)
        self.assertRaises(Unsuited, run, ZONES, PROGRAM, unsuited, 630)
        for program, world in ((refused, WORLD), (PROGRAM, unsuited)):
            self.assertRaises(InvalidNumber, run, ZONES, program, world, "630")

    def test_unlike_errors(self):
        self.assertFalse(issubclass(InvalidZones, InvalidZone))


class TestReturned(unittest.TestCase):
    def test_lists_are_new(self):
        for function, arguments in (
            (moments_of, (ZONE, TABLE, 630)), (moments_of, (ZONE, (0, ((600, 60),)), 630)),
            (offsets_left, (ZONE, (), 5)), (offsets_left, (ZONE, ((0, 0), (1, 60), (2, 0)), 5)),
            (kinds, (ZONES, PROGRAM)), (kinds, (ZONES, ())), (run, (ZONES, PROGRAM, WORLD, 630)),
            (run, (ZONES, (), WORLD)), (cases, (ZONES, PROGRAM)), (cases, (ZONES, ())),
            (looks_of, (ZONES, PROGRAM, 1)), (looks_of, (ZONES, (), 1)),
            (differences, (ZONES, PROGRAM, 0, 2)), (refusals, (ZONES, PROGRAM)),
            (refusals, (ZONES, (("read", 0, 0), ("find", 1, 0, "refuse", "ahead")))),
            (rules_that_keep, (ZONES, PROGRAM, WISH)), (rules_that_keep, (ZONES, (), ("found",))),
            (rules_that_keep, (ZONES, ENDED, ("same", 0, 2))),
        ):
            first = function(*arguments)
            kept = list(first)
            self.assertIsInstance(first, list)
            first.append("more")
            second = function(*arguments)
            self.assertEqual(second, kept)
            self.assertIsNot(second, first)
            self.assertEqual(first, [*kept, "more"])

    def test_equal_calls_have_equal_results(self):
        for function, arguments in CALLS:
            again = copy.deepcopy(arguments)
            self.assertEqual(whole(function(**arguments)), whole(function(**again)))
            self.assertEqual(whole(function(**arguments)), whole(function(**again)))

    def test_arguments_stay(self):
        for function, arguments in CALLS:
            kept = copy.deepcopy(arguments)
            call(function, arguments)
            self.assertEqual(arguments, kept)
        for make in (lambda: [(0, 60), [100]], lambda: ([[0], 60], 100), lambda: [Refused]):
            value = make()
            for function in (is_zone, is_zones, lambda x: is_table(ZONE, x), lambda x: is_looks(ZONE, x)):
                self.assertIs(function(value), False)
            for name, function in (("table", offset_at), ("looks", offsets_left)):
                self.assertRaises(ERRORS[name], function, ZONE, value, 0)
            self.assertIs(is_program(ZONES, value), False)
            self.assertIs(is_world(ZONES, value), False)
            self.assertIs(is_wish(ZONES, PROGRAM, value), False)
            self.assertRaises(InvalidWish, keeps, ZONES, PROGRAM, value)
            self.assertEqual(value, make())

    def test_kinds(self):
        for function, arguments in CALLS:
            result = call(function, arguments)
            kind = {
                is_table: bool, offset_at: int, reading_at: int, moments_of: list, find_moment: int,
                is_looks: bool, can_hold: bool, early_table: tuple, offsets_left: list,
                crowded: type(None), is_program: bool, is_world: bool, kinds: list, run: list, cases: list,
                worlds: list, looks_of: list, is_wish: bool, keeps: bool, breaking: tuple, differences: list,
                witness: tuple, refusals: list, rules_that_keep: list, least_spacing: type(None), alike: bool,
                parting: tuple, write_program: str, read_program: tuple, write_wish: str, read_wish: tuple,
            }[function]
            self.assertIs(type(result), kind)
        self.assertEqual(crowded(ZONE, ((0, 0), (1, 60), (2, 0))), (0, 2))
        self.assertIs(type(crowded(ZONE, ((0, 0), (1, 60), (2, 0)))), tuple)
        offset, jumps = early_table(ZONE, LOOKS)
        self.assertEqual([type(item) for item in (offset, jumps, *jumps)], [int, tuple, tuple, tuple])

    def test_kinds_within_cases_and_worlds(self):
        def plain(value):
            """Whether the value is a tuple of tuples, integers and None, as deep as it goes."""
            if type(value) is tuple:
                return all(plain(item) for item in value)
            return value is None or type(value) is int

        for program in (PROGRAM, (), (("read", 0, 0), ("find", 1, 0, "refuse", "ahead"))):
            for case, world in zip(cases(ZONES, program), worlds(ZONES, program)):
                self.assertTrue(plain(case))
                self.assertEqual(len(case), 3)
                self.assertTrue(plain(world))
                self.assertIs(is_world(ZONES, world), True)
        self.assertTrue(plain(breaking(ZONES, PROGRAM, WISH)))
        self.assertTrue(plain(witness(ZONES, PROGRAM, 0, 2, -60)))
        self.assertTrue(plain(tuple(run(ZONES, PROGRAM, WORLD, 630))))
