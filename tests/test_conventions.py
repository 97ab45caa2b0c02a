"""[2] for the modules that are there: names of arguments, errors and their order, new lists."""

import copy
import unittest

from hoursmeant.errors import (
    InvalidLooks, InvalidNumber, InvalidRule, InvalidTable, InvalidZone, InvalidZones, Refused,
)
from hoursmeant.spacing import can_hold, crowded, early_table, is_looks, offsets_left
from hoursmeant.zones import (
    find_moment, is_table, is_zone, is_zones, moments_of, offset_at, reading_at,
)
from tests.helpers import ODD_VALUES, nested, odd_at_each_depth, parameters

ZONE = ((0, 60), 100)
TABLE = (60, ((600, 0),))
LOOKS = ((0, 0), (50, 60), (101, 0))

# Right arguments in the order of the signature, and the error for each parameter that has one.
CALLS = (
    (is_table, {"zone": ZONE, "value": TABLE}),
    (offset_at, {"zone": ZONE, "table": TABLE, "moment": 630}),
    (reading_at, {"zone": ZONE, "table": TABLE, "moment": 630}),
    (moments_of, {"zone": ZONE, "table": TABLE, "reading": 630}),
    (find_moment, {"zone": ZONE, "table": TABLE, "reading": 630, "fold": "late", "gap": "behind"}),
    (is_looks, {"zone": ZONE, "value": LOOKS}),
    (can_hold, {"zone": ZONE, "looks": LOOKS}),
    (crowded, {"zone": ZONE, "looks": LOOKS}),
    (early_table, {"zone": ZONE, "looks": LOOKS}),
    (offsets_left, {"zone": ZONE, "looks": LOOKS, "moment": 201}),
)
BY_NAME_ONLY = ("fold", "gap")
ERRORS = {
    "zone": InvalidZone, "table": InvalidTable, "moment": InvalidNumber, "reading": InvalidNumber,
    "fold": InvalidRule, "gap": InvalidRule, "looks": InvalidLooks,
}
WRONG = {
    "zone": [*ODD_VALUES, (), 0, ((0, 60), 60), ((60, 0), 100), [(0, 60), 100], ((0, 1, 2, 3), 9), (ZONE,)],
    "table": [*ODD_VALUES, (), 0, (30, ()), (0, ((600, 0),)), [60, ()], (0, ((0, 60), (99, 0)))],
    "looks": [*ODD_VALUES, 0, ((0, 30),), ((0, 0), (0, 0)), ((1, 0), (0, 0)), [(0, 0)], LOOKS[::-1]],
    "moment": [*ODD_VALUES, (), "600", (600,), [600]],
    "fold": [*ODD_VALUES, (), 0, "ahead", "behind", "Early", "early ", "earlylate", ("early",), 10 ** 30],
    "gap": [*ODD_VALUES, (), 0, "early", "late", "Ahead", " behind", "refuse\n", ("refuse",), -10 ** 30],
}
WRONG["reading"] = WRONG["moment"]
WRONG["table"] += odd_at_each_depth((60, ((600, 0),)))
WRONG["looks"] += odd_at_each_depth(((0, 0), (50, 60)))
WRONG["zone"] += odd_at_each_depth(ZONE)


def call(function, arguments):
    """The function with these arguments, by position as far as that is possible."""
    plain = [item for name, item in arguments.items() if name not in BY_NAME_ONLY]
    named = {name: item for name, item in arguments.items() if name in BY_NAME_ONLY}
    return function(*plain, **named)


class TestArguments(unittest.TestCase):
    def test_names_and_order(self):
        for function in (is_zone, is_zones):
            self.assertEqual(parameters(function), (["value"], {}))
        for function, arguments in CALLS:
            plain, named = parameters(function)
            self.assertEqual(plain + list(named), list(arguments))
            self.assertEqual(list(named), [name for name in arguments if name in BY_NAME_ONLY])
        self.assertEqual(parameters(find_moment)[1], {"fold": "early", "gap": "ahead"})

    def test_by_position_and_by_name(self):
        self.assertIs(is_zone(value=ZONE), True)
        self.assertIs(is_zones(value=(ZONE,)), True)
        for function, arguments in CALLS:
            self.assertEqual(function(**arguments), call(function, arguments))

    def test_rules_by_name_only(self):
        for rules in (("early",), ("early", "ahead")):
            self.assertRaises(TypeError, find_moment, ZONE, TABLE, 630, *rules)


class TestErrors(unittest.TestCase):
    def test_each_wrong_argument(self):
        for function, arguments in CALLS:
            for name in arguments:
                if name == "value":
                    continue
                for wrong in WRONG[name]:
                    with self.subTest(function=function.__name__, name=name, wrong=wrong):
                        with self.assertRaises(ERRORS[name]) as caught:
                            call(function, {**arguments, name: wrong})
                        self.assertIs(type(caught.exception), ERRORS[name])

    def test_two_and_more_wrong_arguments(self):
        for function, arguments in CALLS:
            names = [name for name in arguments if name != "value"]
            for k, first in enumerate(names):
                for others in [[other] for other in names[k + 1:]] + [names[k + 1:]]:
                    for at in range(6):
                        wrong = {name: WRONG[name][at] for name in [first, *others]}
                        with self.subTest(function=function.__name__, wrong=wrong):
                            self.assertRaises(ERRORS[first], call, function, {**arguments, **wrong})

    def test_what_is_right_for_another_zone(self):
        other = ((-60, 0), 100)
        for function, arguments in CALLS:
            wrong = {**arguments, "zone": other}
            with self.subTest(function=function.__name__):
                if "value" in arguments:
                    self.assertIs(function(**wrong), False)
                else:
                    self.assertRaises((InvalidTable, InvalidLooks), function, **wrong)

    def test_any_value_is_told(self):
        for value in (*ODD_VALUES, 0, 10 ** 30, -10 ** 30, "x" * 4000, [nested(29)] * 2000):
            self.assertIs(is_zone(value), False)
            self.assertIs(is_zones(value), False)
            self.assertIs(is_table(ZONE, value), False)
            self.assertIs(is_looks(ZONE, value), False)

    def test_wrong_zone_with_any_value(self):
        for function in (is_table, is_looks):
            for value in ODD_VALUES:
                self.assertRaises(InvalidZone, function, None, value)

    def test_unlike_errors(self):
        self.assertFalse(issubclass(InvalidZones, InvalidZone))


class TestReturned(unittest.TestCase):
    def test_lists_are_new(self):
        for function, arguments in (
            (moments_of, (ZONE, TABLE, 630)), (moments_of, (ZONE, (0, ((600, 60),)), 630)),
            (offsets_left, (ZONE, (), 5)), (offsets_left, (ZONE, ((0, 0), (1, 60), (2, 0)), 5)),
        ):
            first = function(*arguments)
            kept = list(first)
            self.assertIsInstance(first, list)
            first.append("more")
            second = function(*arguments)
            self.assertEqual(second, kept)
            self.assertIsNot(second, first)

    def test_equal_calls_have_equal_results(self):
        for function, arguments in CALLS:
            again = copy.deepcopy(arguments)
            self.assertEqual(function(**arguments), function(**again))
            self.assertEqual(function(**arguments), function(**again))

    def test_arguments_stay(self):
        for function, arguments in CALLS:
            kept = copy.deepcopy(arguments)
            function(**arguments)
            self.assertEqual(arguments, kept)
        for make in (lambda: [(0, 60), [100]], lambda: ([[0], 60], 100), lambda: [Refused]):
            value = make()
            for function in (is_zone, is_zones, lambda x: is_table(ZONE, x), lambda x: is_looks(ZONE, x)):
                self.assertIs(function(value), False)
            for name, function in (("table", offset_at), ("looks", offsets_left)):
                self.assertRaises(ERRORS[name], function, ZONE, value, 0)
            self.assertEqual(value, make())

    def test_kinds(self):
        for function, arguments in CALLS:
            result = function(**arguments)
            kind = {
                is_table: bool, offset_at: int, reading_at: int, moments_of: list, find_moment: int,
                is_looks: bool, can_hold: bool, early_table: tuple, offsets_left: list,
                crowded: type(None),
            }[function]
            self.assertIs(type(result), kind)
        self.assertEqual(crowded(ZONE, ((0, 0), (1, 60), (2, 0))), (0, 2))
        self.assertIs(type(crowded(ZONE, ((0, 0), (1, 60), (2, 0)))), tuple)
        offset, jumps = early_table(ZONE, LOOKS)
        self.assertEqual([type(item) for item in (offset, jumps, *jumps)], [int, tuple, tuple, tuple])
